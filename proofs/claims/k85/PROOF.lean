import PyProof.Rows.All
import Wide.All
import OpenK.AllK
import Wide.FinOn
import HandS.ForMost
import HandS.ForExc
import HandS.Wide
import HandS.Gcd
import HandS.IsInst
import HandS.Defaults
import HandS.Style
import HandS.Star
import HandS.ClsMeth
import HandS.OwnEq
import PyProof.InstNe
import HandS.Zip
import HandS.Walk
import HandS.Lambda
import HandS.NestedK
import HandS.EndOwn
import HandS.WordsExc
import HandS.ExcIs
import HandS.TupAny
import HandS.Exc
import KE.DataMinMax
import HandS.RaiseMore
import HandS.TryOnly
import HandS.Codes
import HandS.FStr
import HandS.More
import HandS.Conv
import KE.KDictPairs
import KE.SortKeyHeap
import HandS.EndTab
import PyProof.ReprRoads
import KE.KExcSuper
import HandS.ExcInit
import HandS.ExcField
import HandS.Replace
import HandS.Deep
import PyProof.ListStr
import KE.KExcIs
import PyProof.StrOps2
import PySem.Challenge.RW_handedpast_k85_table_texts_spoilt
set_option Elab.async false
set_option linter.all false
set_option maxRecDepth 100000
set_option maxHeartbeats 4000000
namespace My
theorem q_den_pos (q : Rat) : (0 : Int) < q.den := by have := q.den_pos; omega
theorem q_den_ne (q : Rat) : ((q.den : Int) : Rat) ≠ 0 := by
  have := q_den_pos q
  intro h
  have : (q.den : Int) = 0 := by exact_mod_cast h
  omega
theorem q_eq (q : Rat) : q = (q.num : Rat) / ((q.den : Int) : Rat) := by
  have h := Rat.num_divInt_den q
  rw [Rat.divInt_eq_div] at h
  exact h.symm
/-- the parts of n / d, by any x / y in lowest terms with n y = x d -/
theorem rat_parts {n d x y : Int} (hd : d ≠ 0) (hy : 0 < y) (hc : Nat.gcd x.natAbs y.natAbs = 1) (e : x * d = n * y) : ((n : Rat) / (d : Rat)).num = x ∧ (((n : Rat) / (d : Rat)).den : Int) = y := by
  obtain ⟨k, rfl⟩ : ∃ k : Nat, y = k := ⟨y.toNat, by omega⟩
  have hk : k ≠ 0 := by omega
  have r : ((n : Rat) / (d : Rat)) = (⟨x, k, hk, by simpa [Nat.Coprime] using hc⟩ : Rat) := by
    rw [← Rat.divInt_eq_div, Rat.mk_eq_divInt, Rat.divInt_eq_divInt_iff hd (by omega)]
    exact e.symm
  rw [r]
  exact ⟨rfl, rfl⟩
theorem gcd_pos_of {n d : Int} (hd : d ≠ 0) : 0 < Nat.gcd n.natAbs d.natAbs := Nat.gcd_pos_of_pos_right _ (by omega)
theorem gcd_dvd_l (n d : Int) : ((Nat.gcd n.natAbs d.natAbs : Nat) : Int) ∣ n := Int.ofNat_dvd_left.mpr (Nat.gcd_dvd_left ..)
theorem gcd_dvd_r (n d : Int) : ((Nat.gcd n.natAbs d.natAbs : Nat) : Int) ∣ d := Int.ofNat_dvd_left.mpr (Nat.gcd_dvd_right ..)
/-- what lowest terms are: divide by g or -g, as d's sign is -/
theorem low_terms {n d g : Int} (hd : d ≠ 0) (hg : g = ((Nat.gcd n.natAbs d.natAbs : Nat) : Int)) :
    (0 < d → ((n : Rat) / (d : Rat)).num = n / g ∧ (((n : Rat) / (d : Rat)).den : Int) = d / g) ∧
    (d < 0 → ((n : Rat) / (d : Rat)).num = -(n / g) ∧ (((n : Rat) / (d : Rat)).den : Int) = -(d / g)) := by
  have gp : 0 < g := by rw [hg]; exact_mod_cast gcd_pos_of hd
  obtain ⟨a, ha⟩ : g ∣ n := hg ▸ gcd_dvd_l n d
  obtain ⟨b, hb⟩ : g ∣ d := hg ▸ gcd_dvd_r n d
  have en : n / g = a := by rw [ha]; exact Int.mul_ediv_cancel_left _ (by omega)
  have ed : d / g = b := by rw [hb]; exact Int.mul_ediv_cancel_left _ (by omega)
  have hc : Nat.gcd a.natAbs b.natAbs = 1 := by
    have h1 : Nat.gcd (g.natAbs * a.natAbs) (g.natAbs * b.natAbs) = g.natAbs := by
      rw [← Int.natAbs_mul, ← Int.natAbs_mul, ← ha, ← hb]; omega
    rw [Nat.gcd_mul_left] at h1
    have h2 : g.natAbs * Nat.gcd a.natAbs b.natAbs = g.natAbs * 1 := by omega
    exact Nat.eq_of_mul_eq_mul_left (by omega) h2
  rw [en, ed]
  refine ⟨fun h => ?_, fun h => ?_⟩
  · have hb0 : 0 < b := by
      rcases Int.lt_trichotomy b 0 with z | z | z
      · have : g * b < 0 := Int.mul_neg_of_pos_of_neg gp z
        omega
      · subst z; omega
      · exact z
    exact rat_parts hd hb0 hc (by grind)
  · have hb0 : b < 0 := by
      rcases Int.lt_trichotomy b 0 with z | z | z
      · exact z
      · subst z; omega
      · have : 0 < g * b := Int.mul_pos gp z
        omega
    refine rat_parts hd (by omega) (by simpa using hc) (by grind)
theorem fdiv_neg_dvd {n g : Int} (h : g ∣ n) : n.fdiv (-g) = -(n / g) := by
  by_cases z : g = 0
  · subst z; simp
  · obtain ⟨a, rfl⟩ := h
    rw [Int.mul_ediv_cancel_left _ z, show g * a = (-g) * (-a) by grind, Int.mul_fdiv_cancel_left _ (by omega)]
theorem fdiv_dvd {n g : Int} (h : g ∣ n) : n.fdiv g = n / g := by
  by_cases z : g = 0
  · subst z; simp
  · obtain ⟨a, rfl⟩ := h
    rw [Int.mul_ediv_cancel_left _ z, Int.mul_fdiv_cancel_left _ z]
/-- arithmetic of fractions by their parts -/
theorem q_add (a b : Rat) : ((a.num * b.den + b.num * a.den : Int) : Rat) / ((a.den * b.den : Int) : Rat) = a + b := by
  have ha := q_den_ne a
  have hb := q_den_ne b
  conv => rhs; rw [q_eq a, q_eq b]
  simp only [Rat.intCast_add, Rat.intCast_mul]
  grind
theorem q_sub (a b : Rat) : ((a.num * b.den - b.num * a.den : Int) : Rat) / ((a.den * b.den : Int) : Rat) = a - b := by
  have ha := q_den_ne a
  have hb := q_den_ne b
  conv => rhs; rw [q_eq a, q_eq b]
  simp only [Rat.intCast_sub, Rat.intCast_mul]
  grind
theorem q_mul (a b : Rat) : ((a.num * b.num : Int) : Rat) / ((a.den * b.den : Int) : Rat) = a * b := by
  have ha := q_den_ne a
  have hb := q_den_ne b
  conv => rhs; rw [q_eq a, q_eq b]
  simp only [Rat.intCast_mul]
  grind
theorem q_div (a b : Rat) (h : b ≠ 0) : ((a.num * b.den : Int) : Rat) / ((a.den * b.num : Int) : Rat) = a / b := by
  have ha := q_den_ne a
  have hb := q_den_ne b
  have hn : ((b.num : Int) : Rat) ≠ 0 := by
    intro z
    have : b.num = 0 := by exact_mod_cast z
    exact h (Rat.num_eq_zero.mp this)
  conv => rhs; rw [q_eq a, q_eq b]
  simp only [Rat.intCast_mul]
  grind
theorem q_lt (a b : Rat) : (a.num * b.den < b.num * a.den) ↔ a < b := (Rat.lt_iff a b).symm
theorem q_floor (a : Rat) : a.num / (a.den : Int) = a.floor := (Rat.floor_def a).symm
theorem q_num_ne {b : Rat} : b.num ≠ 0 ↔ b ≠ 0 := by rw [ne_eq, ne_eq, Rat.num_eq_zero]
theorem q_ext {a b : Rat} (h1 : a.num = b.num) (h2 : (a.den : Int) = b.den) : a = b := Rat.ext h1 (by omega)
theorem q_coprime (a : Rat) : Nat.gcd a.num.natAbs a.den = 1 := a.reduced

/-! ## sizes -/
/-- a whole number of at most k bits -/
def Bd (k : Nat) (i : Int) : Prop := i.natAbs < 2 ^ k
def BQ (k : Nat) (q : Rat) : Prop := Bd k q.num ∧ Bd k q.den
theorem Bd.mono {j k : Nat} {i : Int} (h : Bd j i) (l : j ≤ k) : Bd k i := Nat.lt_of_lt_of_le h (Nat.pow_le_pow_right (by omega) l)
theorem Bd.mul {j k : Nat} {a b : Int} (ha : Bd j a) (hb : Bd k b) : Bd (j + k) (a * b) := by
  unfold Bd at *
  rw [Int.natAbs_mul, Nat.pow_add]
  exact Nat.mul_lt_mul'' ha hb
theorem Bd.add {j : Nat} {a b : Int} (ha : Bd j a) (hb : Bd j b) : Bd (j + 1) (a + b) := by
  unfold Bd at *
  have := Int.natAbs_add_le a b
  rw [Nat.pow_succ]
  omega
theorem Bd.neg {j : Nat} {a : Int} (ha : Bd j a) : Bd j (-a) := by unfold Bd at *; rwa [Int.natAbs_neg]
theorem Bd.sub {j : Nat} {a b : Int} (ha : Bd j a) (hb : Bd j b) : Bd (j + 1) (a - b) := by
  rw [Int.sub_eq_add_neg]; exact ha.add hb.neg
theorem Bd.addM {j k : Nat} {a b : Int} (ha : Bd j a) (hb : Bd k b) : Bd (max j k + 1) (a + b) := (ha.mono (Nat.le_max_left ..)).add (hb.mono (Nat.le_max_right ..))
theorem Bd.subM {j k : Nat} {a b : Int} (ha : Bd j a) (hb : Bd k b) : Bd (max j k + 1) (a - b) := (ha.mono (Nat.le_max_left ..)).sub (hb.mono (Nat.le_max_right ..))
theorem Bd.of_le {k : Nat} {a b : Int} (hb : Bd k b) (h : a.natAbs ≤ b.natAbs) : Bd k a := Nat.lt_of_le_of_lt h hb
theorem Bd.num {k : Nat} {q : Rat} (h : BQ k q) : Bd k q.num := h.1
theorem Bd.den {k : Nat} {q : Rat} (h : BQ k q) : Bd k (q.den : Int) := h.2
theorem BQ.mono {j k : Nat} {q : Rat} (h : BQ j q) (l : j ≤ k) : BQ k q := ⟨h.1.mono l, h.2.mono l⟩
/-- dividing makes no greater -/
theorem BQ.of_parts {k : Nat} {n d : Int} (hd : d ≠ 0) (hn : Bd k n) (hdd : Bd k d) : BQ k ((n : Rat) / (d : Rat)) := by
  have L := low_terms (n := n) hd rfl
  have gp := gcd_pos_of (n := n) hd
  have a1 : ∀ x : Int, (x / ((Nat.gcd n.natAbs d.natAbs : Nat) : Int)).natAbs ≤ x.natAbs := fun x => Int.natAbs_ediv_le_natAbs ..
  rcases Int.lt_trichotomy d 0 with z | z | z
  · obtain ⟨e1, e2⟩ := L.2 z
    refine ⟨?_, ?_⟩
    · rw [e1]; exact (hn.of_le (a1 n)).neg
    · rw [e2]; exact (hdd.of_le (a1 d)).neg
  · exact absurd z hd
  · obtain ⟨e1, e2⟩ := L.1 z
    refine ⟨?_, ?_⟩
    · rw [e1]; exact hn.of_le (a1 n)
    · rw [e2]; exact hdd.of_le (a1 d)
theorem BQ.add {j k : Nat} {a b : Rat} (ha : BQ j a) (hb : BQ k b) : BQ (j + k + 1) (a + b) := by
  rw [← q_add]
  refine BQ.of_parts ?_ ?_ ?_
  · have := Int.mul_pos (q_den_pos a) (q_den_pos b); omega
  · have h1 := ha.1.mul hb.2
    have h2 := hb.1.mul ha.2
    rw [Nat.add_comm] at h2
    exact h1.add h2
  · exact (ha.2.mul hb.2).mono (by omega)
theorem BQ.sub {j k : Nat} {a b : Rat} (ha : BQ j a) (hb : BQ k b) : BQ (j + k + 1) (a - b) := by
  rw [← q_sub]
  refine BQ.of_parts ?_ ?_ ?_
  · have := Int.mul_pos (q_den_pos a) (q_den_pos b); omega
  · have h1 := ha.1.mul hb.2
    have h2 := hb.1.mul ha.2
    rw [Nat.add_comm] at h2
    exact h1.sub h2
  · exact (ha.2.mul hb.2).mono (by omega)
theorem BQ.mul {j k : Nat} {a b : Rat} (ha : BQ j a) (hb : BQ k b) : BQ (j + k) (a * b) := by
  rw [← q_mul]
  refine BQ.of_parts ?_ (ha.1.mul hb.1) (ha.2.mul hb.2)
  have := Int.mul_pos (q_den_pos a) (q_den_pos b); omega
theorem BQ.div {j k : Nat} {a b : Rat} (ha : BQ j a) (hb : BQ k b) (h : b ≠ 0) : BQ (j + k) (a / b) := by
  rw [← q_div a b h]
  refine BQ.of_parts ?_ (ha.1.mul hb.2) (ha.2.mul hb.1)
  intro z
  rcases Int.mul_eq_zero.mp z with z | z
  · have := q_den_pos a; omega
  · exact q_num_ne.mpr h z
theorem BQ.neg {j : Nat} {a : Rat} (ha : BQ j a) : BQ j (-a) := ⟨by rw [Rat.neg_num]; exact ha.1.neg, by rw [Rat.neg_den]; exact ha.2⟩

/-! ## knots -/
abbrev Kn := Rat × Rat
/-- times ascend -/
def Asc (ks : List Kn) : Prop := ks.Pairwise fun a b => a.1 < b.1
def KB (k : Nat) (ks : List Kn) : Prop := ∀ p, p ∈ ks → BQ k p.1 ∧ BQ k p.2
/-- how many knots are at or before t -/
def cntLe (ks : List Kn) (t : Rat) : Nat := ks.countP fun p => decide (p.1 ≤ t)
/-- the slope just after knot k -/
def paceB (ks : List Kn) (k : Nat) : Rat := match ks[k]?, ks[k + 1]? with
  | some a, some b => (b.2 - a.2) / (b.1 - a.1)
  | _, _ => 0
/-- the position at t -/
def posAt (ks : List Kn) (t : Rat) : Rat := match ks[cntLe ks t - 1]? with
  | some a => a.2 + paceB ks (cntLe ks t - 1) * (t - a.1)
  | none => 0
def plainK (ks : List Kn) : List Kn := ks.take 1 ++ ((List.range (ks.length - 1)).filter fun i => !decide (paceB ks i = paceB ks (i + 1))).map fun i => ks.getD (i + 1) (0, 0)
theorem rat_lt_iff {a b : Rat} : (¬ a ≤ b) ↔ b < a := Rat.not_le
theorem Asc.get {ks : List Kn} (h : Asc ks) {i j : Nat} {a b : Kn} (ha : ks[i]? = some a) (hb : ks[j]? = some b) (l : i < j) : a.1 < b.1 := by
  obtain ⟨hi, rfl⟩ := List.getElem?_eq_some_iff.mp ha
  obtain ⟨hj, rfl⟩ := List.getElem?_eq_some_iff.mp hb
  exact List.pairwise_iff_getElem.mp h i j hi hj l
/-- among ascending knots, those at or before t are the first ones -/
theorem cnt_get {ks : List Kn} {t : Rat} (h : Asc ks) : ∀ {i : Nat} {a : Kn}, ks[i]? = some a → (a.1 ≤ t ↔ i < cntLe ks t) := by
  induction ks with
  | nil => intro i a e; simp at e
  | cons b ks ih =>
    intro i a e
    obtain ⟨hb, hk⟩ := List.pairwise_cons.mp h
    unfold cntLe
    rw [List.countP_cons]
    by_cases hbt : b.1 ≤ t
    · rw [if_pos (by simpa using hbt)]
      cases i with
      | zero => simp at e; subst e; simp [hbt]
      | succ i =>
        have := ih hk (i := i) (a := a) (by simpa using e)
        rw [this]
        unfold cntLe
        omega
    · rw [if_neg (by simpa using hbt)]
      have z : ks.countP (fun p => decide (p.1 ≤ t)) = 0 := by
        rw [List.countP_eq_zero]
        intro p hp
        have h1 := hb p hp
        have h2 := Rat.not_le.mp hbt
        simp only [decide_eq_true_eq]
        exact Rat.not_le.mpr (Std.lt_trans h2 h1)
      rw [z]
      cases i with
      | zero => simp at e; subst e; simp [hbt]
      | succ i =>
        have hp : a ∈ ks := List.mem_of_getElem? (by simpa using e)
        have h1 := hb a hp
        have h2 := Rat.not_le.mp hbt
        constructor
        · intro z2; exact absurd z2 (Rat.not_le.mpr (Std.lt_trans h2 h1))
        · intro z2; omega
theorem cntLe_le (ks : List Kn) (t : Rat) : cntLe ks t ≤ ks.length := List.countP_le_length
theorem cntLe_pos {ks : List Kn} {t : Rat} {a : Kn} (h : ks[0]? = some a) (l : a.1 ≤ t) : 0 < cntLe ks t := by
  unfold cntLe
  rw [List.countP_pos_iff]
  exact ⟨a, List.mem_of_getElem? h, by simpa using l⟩
theorem KB.get {k : Nat} {ks : List Kn} (h : KB k ks) {i : Nat} {a : Kn} (e : ks[i]? = some a) : BQ k a.1 ∧ BQ k a.2 := h a (List.mem_of_getElem? e)
theorem bq_zero (k : Nat) : BQ (k + 1) 0 := ⟨by
    show (0 : Int).natAbs < 2 ^ (k + 1)
    exact Nat.two_pow_pos _, by
    show (1 : Int).natAbs < 2 ^ (k + 1)
    have := Nat.two_pow_pos k
    rw [Nat.pow_succ]
    show 1 < _
    omega⟩
theorem paceB_bq {k : Nat} {ks : List Kn} (h : KB k ks) (ha : Asc ks) (i : Nat) : BQ (4 * k + 2) (paceB ks i) := by
  unfold paceB
  split
  · rename_i a b ea eb
    have l := ha.get ea eb (Nat.lt_succ_self i)
    have h1 := h.get ea
    have h2 := h.get eb
    have := (h2.2.sub h1.2).div (h2.1.sub h1.1) (by
      intro z
      have : b.1 - a.1 > 0 := (Rat.lt_iff_sub_pos ..).mp l
      rw [z] at this
      exact absurd this (by decide))
    exact this.mono (by omega)
  · exact bq_zero _
theorem posAt_bq {k j : Nat} {ks : List Kn} {t : Rat} (h : KB k ks) (ha : Asc ks) (ht : BQ j t) : BQ (6 * k + j + 4) (posAt ks t) := by
  unfold posAt
  split
  · rename_i a ea
    have h1 := h.get ea
    exact (h1.2.add ((paceB_bq h ha _).mul (ht.sub h1.1))).mono (by omega)
  · exact (bq_zero 0).mono (by omega)
/-! ## whole multiples of 1 / DD, at most B * 2 ^ 104 of them -/
def DD : Int := 420000003780
def BD (B : Nat) (q : Rat) : Prop := ∃ z : Int, q = (z : Rat) / ((DD : Int) : Rat) ∧ z.natAbs ≤ B * 2 ^ 104
theorem dd_ne : ((DD : Int) : Rat) ≠ 0 := by
  intro h
  have : DD = 0 := by exact_mod_cast h
  exact absurd this (by decide)
theorem BD.add {a b : Nat} {p q : Rat} (hp : BD a p) (hq : BD b q) : BD (a + b) (p + q) := by
  obtain ⟨x, rfl, hx⟩ := hp
  obtain ⟨y, rfl, hy⟩ := hq
  refine ⟨x + y, ?_, ?_⟩
  · have := dd_ne
    rw [Rat.intCast_add]
    grind
  · have := Int.natAbs_add_le x y
    rw [Nat.add_mul]
    omega
theorem BD.mono {a b : Nat} {p : Rat} (hp : BD a p) (h : a ≤ b) : BD b p := by
  obtain ⟨x, rfl, hx⟩ := hp
  exact ⟨x, rfl, Nat.le_trans hx (Nat.mul_le_mul_right _ h)⟩
theorem BD.neg {a : Nat} {p : Rat} (hp : BD a p) : BD a (-p) := by
  obtain ⟨x, rfl, hx⟩ := hp
  refine ⟨-x, ?_, by omega⟩
  have := dd_ne
  rw [Rat.intCast_neg]
  grind
theorem BD.bq {a : Nat} {p : Rat} (hp : BD a p) (h : a < 65536) : BQ 120 p := by
  obtain ⟨x, rfl, hx⟩ := hp
  refine BQ.of_parts (by decide) ?_ (by unfold Bd; decide)
  unfold Bd
  have h2 : a * 2 ^ 104 < 65536 * 2 ^ 104 := (Nat.mul_lt_mul_right (by decide)).mpr h
  have h3 : 65536 * 2 ^ 104 = 2 ^ 120 := by decide
  omega
theorem BD.of {n d e : Int} (hn : n.natAbs ≤ 2 ^ 64) (he : d * e = DD) (h0 : 0 < d) (h1 : 0 < e) : BD 1 ((n : Rat) / (d : Rat)) := by
  refine ⟨n * e, ?_, ?_⟩
  · have hd : ((d : Int) : Rat) ≠ 0 := by
      intro z
      have : d = 0 := by exact_mod_cast z
      omega
    have h2 : ((e : Int) : Rat) ≠ 0 := by
      intro z
      have : e = 0 := by exact_mod_cast z
      omega
    rw [← he, Rat.intCast_mul, Rat.intCast_mul]
    grind
  · rw [Int.natAbs_mul]
    have h2 : e ≤ DD := by
      rw [← he]
      have := Int.mul_le_mul_of_nonneg_right (show (1 : Int) ≤ d by omega) (show (0 : Int) ≤ e by omega)
      omega
    have h3 : e.natAbs ≤ 2 ^ 40 := by unfold DD at h2; omega
    have h4 := Nat.mul_le_mul hn h3
    have h5 : 2 ^ 64 * 2 ^ 40 = 1 * 2 ^ 104 := by decide
    omega
theorem dd_cases {a : Int} (h : a ∈ [(1 : Int), 1, 1, 2, 3, 4, 7, 60, 1000000009]) : ∃ e, a * e = DD ∧ 0 < a ∧ 0 < e := by
  simp only [List.mem_cons, List.not_mem_nil, or_false] at h
  rcases h with rfl | rfl | rfl | rfl | rfl | rfl | rfl | rfl | rfl
  · exact ⟨420000003780, by decide, by decide, by decide⟩
  · exact ⟨420000003780, by decide, by decide, by decide⟩
  · exact ⟨420000003780, by decide, by decide, by decide⟩
  · exact ⟨210000001890, by decide, by decide, by decide⟩
  · exact ⟨140000001260, by decide, by decide, by decide⟩
  · exact ⟨105000000945, by decide, by decide, by decide⟩
  · exact ⟨60000000540, by decide, by decide, by decide⟩
  · exact ⟨7000000063, by decide, by decide, by decide⟩
  · exact ⟨420, by decide, by decide, by decide⟩

open PySem PySem.Spec PyProof.Rows L2

/-! ## worlds: what may change (M), what is kept -/
abbrev Fg := PySem.W.Frag
abbrev Ms := Addr → Prop
abbrev Rp (α : Type) := Fg → Ms → Hp → V → α → Prop

def Own (M : Ms) (H : Hp) : Prop := ∀ b, M b → H b ≠ none
def Tr (M : Ms) (H : Hp) (M' : Ms) (H' : Hp) : Prop := ∀ b o, H b = some o → ¬ M b → H' b = some o ∧ ¬ M' b
structure Ext (M : Ms) (H H' : Hp) : Prop where
  tr : Tr M H M H'
  ow : Own M H → Own M H'
theorem Ext.of_same {M : Ms} {H H' : Hp} (s : Same H H') : Ext M H H' :=
  ⟨fun b o e n => ⟨s b o e, n⟩, fun w b m z => by
    cases e : H b with
    | none => exact w b m e
    | some o => rw [s b o e] at z; cases z⟩
theorem Ext.refl {M : Ms} {H : Hp} : Ext M H H := .of_same (Same.refl H)
theorem Ext.trans {M : Ms} {H H1 H2 : Hp} (a : Ext M H H1) (b : Ext M H1 H2) : Ext M H H2 :=
  ⟨fun c o e n => b.tr c o (a.tr c o e n).1 n, fun w => b.ow (a.ow w)⟩
theorem Own.same {M : Ms} {H H' : Hp} (s : Same H H') (w : Own M H) : Own M H' := (Ext.of_same s).ow w
theorem Own.ext {M : Ms} {H H' : Hp} (s : Ext M H H') (w : Own M H) : Own M H' := s.ow w
theorem Own.fresh {M : Ms} {H : Hp} {p : Addr} (w : Own M H) (n : H p = none) : ¬ M p := fun m => w p m n
theorem Same.upd_new {H : Hp} {p : Addr} {o : HO} (n : H p = none) : Same H (upd H p o) := fun b u e => by
  rw [upd_ne (ne_of_none e n)]; exact e
theorem Same.tup {H H' : Hp} (s : Same H H') {p : Addr} {o : HO} (e : H p = some o) : H' p = some o := s p o e

/-- what a value stands for -/
class Mono {α : Type} (R : Rp α) : Prop where
  mono : ∀ {K : Fg} {M : Ms} {H : Hp} {M' : Ms} {H' : Hp} {v : V} {a : α}, Tr M H M' H' → R K M H v a → R K M' H' v a
theorem Rp.same {α : Type} {R : Rp α} [i : Mono R] {K : Fg} {M : Ms} {H H' : Hp} {v : V} {a : α} (s : Same H H') (h : R K M H v a) : R K M H' v a := i.mono (Ext.of_same s).tr h
theorem Rp.ext {α : Type} {R : Rp α} [i : Mono R] {K : Fg} {M : Ms} {H H' : Hp} {v : V} {a : α} (s : Ext M H H') (h : R K M H v a) : R K M H' v a := i.mono s.tr h

/-- a tuple that stands still -/
def TupM (K : Fg) (M : Ms) (H : Hp) (a : Addr) (xs : List V) : Prop :=
  (¬ M a ∧ H a = some (.tup xs)) ∨
    ∃ (o : Obj) (its : Array Value) (n : Nat), K.lookup a = some o ∧ o.cls = .type "tuple" ∧ o.data = .seq its n ∧ its.size ≤ sizeLine ∧ Vals xs its.toList
def LstM (K : Fg) (M : Ms) (H : Hp) (a : Addr) (xs : List V) : Prop :=
  (¬ M a ∧ Rd H a (.lst xs)) ∨
    ∃ (o : Obj) (its : Array Value) (n : Nat), K.lookup a = some o ∧ o.cls = .type "list" ∧ o.dict = none ∧ o.data = .seq its n ∧ its.size ≤ sizeLine ∧ Vals xs its.toList
theorem TupM.sq {K : Fg} {M : Ms} {H : Hp} {a : Addr} {xs : List V} (h : TupM K M H a xs) : SqT K H a xs := h.elim (fun z => .inl (.inl z.2)) fun z => .inr z
theorem LstM.sq {K : Fg} {M : Ms} {H : Hp} {a : Addr} {xs : List V} (h : LstM K M H a xs) : SqL K H a xs := h.elim (fun z => .inl z.2) fun z => .inr z
theorem TupM.mono {K : Fg} {M M' : Ms} {H H' : Hp} {a : Addr} {xs : List V} (t : Tr M H M' H') (h : TupM K M H a xs) : TupM K M' H' a xs :=
  h.elim (fun z => .inl ⟨(t _ _ z.2 z.1).2, (t _ _ z.2 z.1).1⟩) fun z => .inr z
theorem LstM.mono {K : Fg} {M M' : Ms} {H H' : Hp} {a : Addr} {xs : List V} (t : Tr M H M' H') (h : LstM K M H a xs) : LstM K M' H' a xs :=
  h.elim (fun z => .inl (z.2.elim (fun e => ⟨(t _ _ e z.1).2, .inl (t _ _ e z.1).1⟩) fun ⟨o, e⟩ => ⟨(t _ _ e z.1).2, .inr ⟨o, (t _ _ e z.1).1⟩⟩)) fun z => .inr z

theorem Prd.monoR {α β : Type} {R S : α → β → Prop} (f : ∀ a b, R a b → S a b) : ∀ {xs : List α} {ys : List β}, Paired R xs ys → Paired S xs ys
  | _, _, .nil => .nil
  | _, _, .cons r t => .cons (f _ _ r) (Prd.monoR f t)
theorem Prd.get {α β : Type} {R : α → β → Prop} : ∀ {xs : List α} {ys : List β} {i : Nat} {y : β}, Paired R xs ys → ys[i]? = some y → ∃ x, xs[i]? = some x ∧ R x y
  | _, _, _, _, .nil, e => by simp at e
  | _, _, 0, y, .cons r _, e => by simp at e; subst e; exact ⟨_, rfl, r⟩
  | _, _, i + 1, y, .cons _ t, e => by
    obtain ⟨x, h1, h2⟩ := Prd.get (i := i) (y := y) t (by simpa using e)
    exact ⟨x, by simpa using h1, h2⟩
theorem Prd.getL {α β : Type} {R : α → β → Prop} : ∀ {xs : List α} {ys : List β} {i : Nat} {x : α}, Paired R xs ys → xs[i]? = some x → ∃ y, ys[i]? = some y ∧ R x y
  | _, _, _, _, .nil, e => by simp at e
  | _, _, 0, y, .cons r _, e => by simp at e; subst e; exact ⟨_, rfl, r⟩
  | _, _, i + 1, y, .cons _ t, e => by
    obtain ⟨x, h1, h2⟩ := Prd.getL (i := i) t (by simpa using e)
    exact ⟨x, by simpa using h1, h2⟩
theorem Prd.len {α β : Type} {R : α → β → Prop} : ∀ {xs : List α} {ys : List β}, Paired R xs ys → xs.length = ys.length
  | _, _, .nil => rfl
  | _, _, .cons _ t => congrArg Nat.succ (Prd.len t)
theorem Prd.snoc {α β : Type} {R : α → β → Prop} {x : α} {y : β} (r : R x y) : ∀ {xs : List α} {ys : List β}, Paired R xs ys → Paired R (xs ++ [x]) (ys ++ [y])
  | _, _, .nil => .cons r .nil
  | _, _, .cons q t => .cons q (Prd.snoc r t)
theorem Prd.append {α β : Type} {R : α → β → Prop} : ∀ {xs xs' : List α} {ys ys' : List β}, Paired R xs ys → Paired R xs' ys' → Paired R (xs ++ xs') (ys ++ ys')
  | _, _, _, _, .nil, s => s
  | _, _, _, _, .cons q t, s => .cons q (Prd.append t s)
theorem Prd.nil_iff {α β : Type} {R : α → β → Prop} {xs : List α} (h : Paired R xs ([] : List β)) : xs = [] := by cases h; rfl

/-! ## what values stand for -/
def rInt : Rp Int := fun _ _ _ v i => v = .int i
def rBl : Rp Bool := fun _ _ _ v b => v = .bl b
def rNon : Rp Unit := fun _ _ _ v _ => v = .non
/-- a fraction -/
def rFr : Rp Rat := fun K M H v q => ∃ p, v = .ref p ∧ TupM K M H p [.int q.num, .int q.den]
def rT2 {α β : Type} (A : Rp α) (B : Rp β) : Rp (α × β) := fun K M H v ab => ∃ p x y, v = .ref p ∧ TupM K M H p [x, y] ∧ A K M H x ab.1 ∧ B K M H y ab.2
def rL {α : Type} (A : Rp α) : Rp (List α) := fun K M H v as => ∃ p vs, v = .ref p ∧ LstM K M H p vs ∧ Paired (A K M H) vs as
instance : Mono rInt := ⟨fun _ h => h⟩
instance : Mono rBl := ⟨fun _ h => h⟩
instance : Mono rNon := ⟨fun _ h => h⟩
instance : Mono rFr := ⟨fun t ⟨p, e, h⟩ => ⟨p, e, h.mono t⟩⟩
instance {α β : Type} (A : Rp α) (B : Rp β) [Mono A] [Mono B] : Mono (rT2 A B) := ⟨fun t ⟨p, x, y, e, h, a, b⟩ => ⟨p, x, y, e, h.mono t, Mono.mono t a, Mono.mono t b⟩⟩
instance {α : Type} (A : Rp α) [Mono A] : Mono (rL A) := ⟨fun t ⟨p, vs, e, h, a⟩ => ⟨p, vs, e, h.mono t, Prd.monoR (fun _ _ z => Mono.mono t z) a⟩⟩

/-! ## steps of a reading -/
/-- a tuple, a list comes to stand -/
def NewT (xs : List V) (H : Hp) (Q : VK) : Prop := xs.length ≤ sizeLine ∧ ∀ p, H p = none → Q (.ref p) (upd H p (.tup xs))
def NewL (xs : List V) (H : Hp) (Q : VK) : Prop := xs.length ≤ sizeLine ∧ ∀ p, H p = none → Q (.ref p) (upd H p (.lst xs))
section
variable {K : Fg} {M : Ms} {H H' : Hp} {σ : L2.St} {D : Ends} {Q : VK} {R : Bool → Hp → Prop} {t u : TS} {te ta tb : TE} {c c' : TT} {g : TG} {v x y : V} {i j : Int}
theorem s_seq (h : t { D with nx := u D } σ H) : tSeq t u D σ H := h
theorem s_next (h : D.nx σ H) : tNext D σ H := h
theorem s_asg (h : te σ H fun x H1 => g x σ H1 D.nx) : tAsg te g D σ H := h
theorem s_gname {i : Nat} {q : L2.St → Hp → Prop} (h : q (σ.set i (some v)) H) : gName i v σ H q := h
theorem s_ret (h : te σ H D.rt) : tRet te D σ H := h
theorem s_retN (h : D.rt .non H) : tRetN D σ H := h
theorem s_drop (h : te σ H fun _ H1 => D.nx σ H1) : tDrop te D σ H := h
theorem s_if (h : c σ H fun b H1 => if b = true then t D σ H1 else u D σ H1) : tIfS c t u D σ H := h
theorem s_brk (h : D.bk σ H) : tBreak D σ H := h
theorem s_cont (h : D.ct σ H) : tCont D σ H := h
theorem s_var {i : Nat} (e : σ[i]? = some (some v)) (h : Q v H) : tVar i σ H Q := ⟨v, e, h⟩
theorem s_c (h : Q v H) : tC v σ H Q := h
theorem s_op {r : R2} (h : ta σ H fun x H1 => tb σ H1 fun y H2 => r x y H2 Q) : tOp r ta tb σ H Q := h
theorem s_un {r : V → Hp → VK → Prop} (h : ta σ H fun x H1 => r x H1 Q) : tUn r ta σ H Q := h
theorem s_rI0 {f : Int → Int → V} (h : Q (f i j) H) : rI0 f (.int i) (.int j) H Q := ⟨i, j, rfl, rfl, h⟩
theorem s_rI {C : Int → Int → Prop} {f : Int → Int → V} (hc : C i j) (h : Q (f i j) H) : rI C f (.int i) (.int j) H Q := ⟨i, j, rfl, rfl, hc, h⟩
theorem s_rU {f : Int → V} (h : Q (f i) H) : rU f (.int i) H Q := ⟨i, rfl, h⟩
theorem s_test (h : te σ H fun x H' => ∃ k, x = .bl k ∧ R k H') : tTest te σ H R := h
theorem s_tB (h : te σ H fun x H' => ∃ k, x = .bl k ∧ R k H') : tB te σ H R := h
theorem s_bl {b : Bool} {q : Bool → Prop} (h : q b) : ∃ k, V.bl b = V.bl k ∧ q k := ⟨b, rfl, h⟩
theorem s_and (h : c σ H fun b H1 => if b = true then c' σ H1 R else R false H1) : tAnd c c' σ H R := h
theorem s_or (h : c σ H fun b H1 => if b = true then R true H1 else c' σ H1 R) : tOr c c' σ H R := h
theorem s_not (h : c σ H fun b H1 => R (!b) H1) : tNot c σ H R := h
theorem s_andV (h : ta σ H fun x H1 => ∃ c, x = .bl c ∧ if c = true then tb σ H1 Q else Q (.bl false) H1) : tAndV ta tb σ H Q := h
theorem s_orV (h : ta σ H fun x H1 => ∃ c, x = .bl c ∧ if c = true then Q (.bl true) H1 else tb σ H1 Q) : tOrV ta tb σ H Q := h
theorem s_notV (h : ta σ H fun x H1 => ∃ c, x = .bl c ∧ Q (.bl (!c)) H1) : tNotV ta σ H Q := h
theorem s_ifx (h : c σ H fun b H1 => if b = true then ta σ H1 Q else tb σ H1 Q) : tIf c ta tb σ H Q := h
theorem s_nil {q : List V → Hp → Prop} (h : q [] H) : tNil σ H q := h
theorem s_cons {tr : TA} {q : List V → Hp → Prop} (h : ta σ H fun x H1 => tr σ H1 fun xs H2 => q (x :: xs) H2) : tCons ta tr σ H q := h
theorem s_tup {t : TA} (h : t σ H fun xs H1 => NewT xs H1 Q) : tTup t σ H Q := h
theorem s_lst {t : TA} (h : t σ H fun xs H1 => NewL xs H1 Q) : tLst t σ H Q := h
theorem s_call {sp : Sp} {dvs : List V} {E : XK} {t : TA} (h : t σ H fun vs H1 => sp (vs ++ dvs) H1 Q E) : tCall sp dvs E t σ H Q := h
theorem s_cb {r : List V → Hp → VK → Prop} {t : TA} (h : t σ H fun vs H1 => r vs H1 Q) : tCB r t σ H Q := h
theorem s_ite {A B : Prop} {p : Prop} {dp : Decidable p} (h1 : p → A) (h2 : ¬ p → B) : if decide p = true then A else B := by
  by_cases e : p
  · rw [if_pos (decide_eq_true e)]; exact h1 e
  · rw [if_neg (by simpa using e)]; exact h2 e
theorem s_iteN {A B : Prop} {p : Prop} {dp : Decidable p} (h1 : ¬ p → A) (h2 : p → B) : if (!decide p) = true then A else B := by
  by_cases e : p
  · rw [if_neg (by simpa using e)]; exact h2 e
  · rw [if_pos (by simpa using e)]; exact h1 e
theorem s_iteB {A B : Prop} {b : Bool} (h1 : b = true → A) (h2 : b = false → B) : if b = true then A else B := by
  cases b with
  | true => rw [if_pos rfl]; exact h1 rfl
  | false => rw [if_neg Bool.false_ne_true]; exact h2 rfl
theorem s_iteT {A B : Prop} (h : A) : if true = true then A else B := by rw [if_pos rfl]; exact h
theorem s_iteF {A B : Prop} (h : B) : if false = true then A else B := by rw [if_neg Bool.false_ne_true]; exact h
/-- items -/
theorem atI0 {α : Type} {a : α} {l : List α} : atI (a :: l) 0 = some a := by
  show atI (a :: l) ((0 : Nat) : Int) = some a
  exact atI_nat rfl
theorem atI1 {α : Type} {a b : α} {l : List α} : atI (a :: b :: l) 1 = some b := by
  show atI (a :: b :: l) ((1 : Nat) : Int) = some b
  exact atI_nat rfl
theorem s_fr0 {q : Rat} (e : rFr K M H x q) (h : Q (.int q.num) H) : rIx K x (.int 0) H Q := by
  obtain ⟨p, rfl, z⟩ := e
  exact .inr (.inl ⟨p, _, 0, _, rfl, rfl, z.sq, atI0, h⟩)
theorem s_fr1 {q : Rat} (e : rFr K M H x q) (h : Q (.int q.den) H) : rIx K x (.int 1) H Q := by
  obtain ⟨p, rfl, z⟩ := e
  exact .inr (.inl ⟨p, _, 1, _, rfl, rfl, z.sq, atI1, h⟩)
theorem s_t20 {α β : Type} {A : Rp α} {B : Rp β} {ab : α × β} (e : rT2 A B K M H x ab) (h : ∀ y, A K M H y ab.1 → Q y H) : rIx K x (.int 0) H Q := by
  obtain ⟨p, y, z, rfl, w, a, b⟩ := e
  exact .inr (.inl ⟨p, _, 0, _, rfl, rfl, w.sq, atI0, h _ a⟩)
theorem s_t21 {α β : Type} {A : Rp α} {B : Rp β} {ab : α × β} (e : rT2 A B K M H x ab) (h : ∀ y, B K M H y ab.2 → Q y H) : rIx K x (.int 1) H Q := by
  obtain ⟨p, y, z, rfl, w, a, b⟩ := e
  exact .inr (.inl ⟨p, _, 1, _, rfl, rfl, w.sq, atI1, h _ b⟩)
theorem len2 {α : Type} {a b : α} : [a, b].length ≤ sizeLine := by show 2 ≤ sizeLine; decide
/-- a new tuple of two ints -/
theorem s_newT {a b : Int} (w : Own M H) (h : ∀ p H', Same H H' → Own M H' → TupM K M H' p [.int a, .int b] → Q (.ref p) H') :
    NewT [V.int a, V.int b] H Q :=
  ⟨len2, fun p n => h p _ (Same.upd_new n) (w.same (Same.upd_new n)) (.inl ⟨w.fresh n, upd_same⟩)⟩
theorem s_newT2 {α β : Type} {A : Rp α} {B : Rp β} [Mono A] [Mono B] {a : α} {b : β} (w : Own M H) (ha : A K M H x a) (hb : B K M H y b) (h : ∀ p H', Same H H' → Own M H' → rT2 A B K M H' p (a, b) → Q p H') :
    NewT [x, y] H Q :=
  ⟨len2, fun p n => h _ _ (Same.upd_new n) (w.same (Same.upd_new n)) ⟨p, x, y, rfl, .inl ⟨w.fresh n, upd_same⟩, Rp.same (Same.upd_new n) ha, Rp.same (Same.upd_new n) hb⟩⟩
end


/-! ## operators by what they meet -/
section
variable {X : Cx}
def rAddA (K : Fg) : R2 := fun x y H Q => rI0 (fun i j => .int (i + j)) x y H Q ∨ rCat x y H Q ∨ rCatT K x y H Q
theorem opAdd : OpR X (binaryOp .Add) (rAddA X.K) := op_add.or (op_cat.or op_catT)
def rMulA : R2 := fun x y H Q => rI CMulW (fun i j => .int (i * j)) x y H Q ∨ rRep x y H Q
theorem opMul : OpR X (binaryOp .Mult) rMulA := op_mulW.or op_rep
def rAbs : List V → Hp → VK → Prop := fun xs H Q => ∃ i, xs = [.int i] ∧ Q (.int (if i < 0 then -i else i)) H
theorem callAbs : CallR X (.builtin "abs") rAbs := call_abs
def rLen (K : Fg) : List V → Hp → VK → Prop := fun xs H Q => ∃ x n, xs = [x] ∧ LenV K x H n ∧ Q (.int n) H
theorem callLen : CallR X (.builtin "len") (rLen X.K) := call_len
def rMin2 : List V → Hp → VK → Prop := fun xs H Q => ∃ i j, xs = [.int i, .int j] ∧ Q (.int (if j < i then j else i)) H
theorem callMin (hc : X.calm = true) : CallR X (.builtin "min") rMin2 := call_min2 hc
def rMax2 : List V → Hp → VK → Prop := fun xs H Q => ∃ i j, xs = [.int i, .int j] ∧ Q (.int (if j > i then j else i)) H
theorem callMax (hc : X.calm = true) : CallR X (.builtin "max") rMax2 := call_max2 hc
def rIntC : List V → Hp → VK → Prop := fun xs H Q => (∃ i, xs = [.int i] ∧ Q (.int i) H) ∨ ∃ k, xs = [.bl k] ∧ Q (.int (if k then 1 else 0)) H
theorem callInt : CallR X (.type "int") rIntC := call_int1
def rListC (K : Fg) : List V → Hp → VK → Prop := fun xs H Q => ∃ p ys, xs = [.ref p] ∧ (SqL K H p ys ∨ SqT K H p ys) ∧ ∀ l, H l = none → Q (.ref l) (upd H l (.lst ys))
theorem callList : CallR X (.type "list") (rListC X.K) := call_list_of
def CDivX (_ j : Int) : Prop := j ≠ 0 ∧ j.natAbs.log2 < 9000
def rDivX : R2 := rI CDivX fun i j => .int (i.fdiv j)
theorem opDiv : OpR X (binaryOp .FloorDiv) rDivX := opI fun i j _ _ _ _ _ hc q => floordiv_int hc.1 q (.inl (PyProof.noPylong_of_log2 hc.2))
def rEqA (K : Fg) : R2 := fun x y H Q => rEq x y H Q ∨ rEqD K x y H Q
def rNeA (K : Fg) : R2 := fun x y H Q => rNe x y H Q ∨ rNeD K x y H Q
theorem opEq (hu : X.A.units + 64 < cLine) : OpR X (compareOp .Eq) (rEqA X.K) := op_eq.or (op_eqD hu)
theorem opNe (hu : X.A.units + 64 < cLine) : OpR X (compareOp .NotEq) (rNeA X.K) := op_ne.or (op_neD hu)
def rIsNotB : R2 := fun x y H Q => ∃ a b : Bool, x = .bl a ∧ y = .bl b ∧ Q (.bl (!decide (a = b))) H
theorem opIsNotBl : OpR X (compareOp .IsNot) rIsNotB := by
  intro pins s σ H x y v u Q I rx ry h
  obtain ⟨a, b, rfl, rfl, q⟩ := h
  cases (show v = Value.bool a from rx)
  cases (show u = Value.bool b from ry)
  by_cases e : a = b
  · subst e
    exact wpAny_isNot_self rfl ⟨.bl false, H, I, rfl, by simpa using q⟩
  · exact wpAny_isNot_other rfl (fun z => e (Value.bool.inj z)) ⟨.bl true, H, I, rfl, by simpa [e] using q⟩
end

/-! ## a callee by its promise -/
structure Cal (P : Program) (w : World) (K : Fg) (mg : Str → Option Value) (base : Heap) (CX : CXT) (k : Nat) (x : Str) (ps : List Str) (dvs : List V) (sp : Sp) : Prop where
  ex : ∃ (f : Addr) (fd : FuncData) (ds : List Value), FnOk P w K mg base CX k f fd ps sp ∧ mg x = some (.ref f) ∧ PySem.W.keepIn K (.ref f) = true ∧ Binds K fd ps ds ∧ Vals dvs ds
theorem pe_cal {X : Cx} {CX : CXT} {k : Nat} {x : Str} {ps : List Str} {dvs : List V} {sp : Sp} {E : XK} {p pos : Pos} {e : Expr} {es : List Expr} {t : TA}
    (G : Cal X.prog X.w X.K X.mg X.base CX k x ps dvs sp) (hr : Room k X.A) (hg : Gl X x) (hx : Passes CX X E)
    (ha : PA X (e :: es) t) (hdb : (x == ("__debug__" : Str)) = false := by decide) (he : starEach (e :: es) X.env = (false, eval e X.env) :: starEach es X.env := by rfl) (hpl : (backTo pos (starEach es X.env)).any (·.1) = false := by rfl) :
    PE X (.Call (.Name x p) (e :: es) [] pos) (tCall sp dvs E t) := by
  obtain ⟨f, fd, ds, F, hm, hk, hb, hd⟩ := G.ex
  exact pe_call F hr hg hm hk hb hd hx ha hdb he hpl
theorem Cal.mk' {P : Program} {w : World} {K : Fg} {mg : Str → Option Value} {base : Heap} {CX : CXT} {k : Nat} {x : Str} {ps : List Str} {sp : Sp} {f : Addr} {fd : FuncData}
    (F : FnOk P w K mg base CX k f fd ps sp) (hm : mg x = some (.ref f)) (hk : PySem.W.keepIn K (.ref f) = true) (hb : Binds K fd ps []) : Cal P w K mg base CX k x ps [] sp := ⟨f, fd, [], F, hm, hk, hb, .nil⟩

/-! ## steps by what is met -/
section
variable {K : Fg} {M : Ms} {H H' : Hp} {σ : L2.St} {Q : VK} {R : Bool → Hp → Prop} {te ta tb : TE} {v x y : V} {i j : Int} {b c : Bool}
theorem s_addI (h : Q (.int (i + j)) H) : rAddA K (.int i) (.int j) H Q := .inl ⟨i, j, rfl, rfl, h⟩
theorem s_mulI (hc : CMulW i j) (h : Q (.int (i * j)) H) : rMulA (.int i) (.int j) H Q := .inl ⟨i, j, rfl, rfl, hc, h⟩
theorem s_divI (hc : CDivX i j) (h : Q (.int (i.fdiv j)) H) : rDivX (.int i) (.int j) H Q := ⟨i, j, rfl, rfl, hc, h⟩
theorem s_eqI (h : Q (.bl (decide (i = j))) H) : rEqA K (.int i) (.int j) H Q := .inl ⟨rfl, by
  have e : decide (V.int i = V.int j) = decide (i = j) := by rw [dec_int, Bool.beq_eq_decide_eq]
  rw [e]; exact h⟩
theorem s_neI (h : Q (.bl (!decide (i = j))) H) : rNeA K (.int i) (.int j) H Q := .inl ⟨rfl, by
  have e : decide (V.int i = V.int j) = decide (i = j) := by rw [dec_int, Bool.beq_eq_decide_eq]
  rw [e]; exact h⟩
theorem s_eqB (h : Q (.bl (decide (b = c))) H) : rEqA K (.bl b) (.bl c) H Q := .inl ⟨rfl, by
  have e : decide (V.bl b = V.bl c) = decide (b = c) := by rw [dec_bl, Bool.beq_eq_decide_eq]
  rw [e]; exact h⟩
theorem s_neB (h : Q (.bl (!decide (b = c))) H) : rNeA K (.bl b) (.bl c) H Q := .inl ⟨rfl, by
  have e : decide (V.bl b = V.bl c) = decide (b = c) := by rw [dec_bl, Bool.beq_eq_decide_eq]
  rw [e]; exact h⟩
theorem s_isB (h : Q (.bl (decide (b = c))) H) : rIsB (.bl b) (.bl c) H Q := ⟨b, c, rfl, rfl, h⟩
theorem s_isNB (h : Q (.bl (!decide (b = c))) H) : rIsNotB (.bl b) (.bl c) H Q := ⟨b, c, rfl, rfl, h⟩
theorem s_abs (h : Q (.int (i.natAbs : Nat)) H) : rAbs [V.int i] H Q := ⟨i, rfl, by
  have e : (if i < 0 then -i else i) = ((i.natAbs : Nat) : Int) := by split <;> omega
  rw [e]; exact h⟩
theorem s_gcd {i j : Int} (h : Q (.int ((Nat.gcd i.natAbs j.natAbs : Nat) : Int)) H) : rGcd [.int i, .int j] H Q := ⟨i, j, rfl, h⟩
theorem cmul_of {a b : Nat} {i j : Int} (ha : Bd a i) (hb : Bd b j) (h : a + b ≤ 999998) : CMulW i j := wide_mul (a := a + 1) (b := b + 1) (ha.mono (by omega)) (hb.mono (by omega)) (by omega) (by omega) (by omega)
theorem cdiv_of {a : Nat} {i j : Int} (h : j ≠ 0) (ha : Bd a j) (l : a < 9000) : CDivX i j := ⟨h, Nat.lt_of_lt_of_le (PySem.Flt.log2_lt_of (by omega) (ha.mono (Nat.le_succ a))) (by omega)⟩
end
/-! ## data that is compared -/
class Eqd {α : Type} (R : Rp α) where
  d : α → PyData
  dp : ∀ {K M H v a}, R K M H v a → Dp K H v (d a)
  sh : ∀ a, (d a).canLay0 = true
  dep : Nat
  de : ∀ a, (d a).depth ≤ dep
class EqdL {α : Type} (R : Rp α) [i : Eqd R] : Prop where
  inj : ∀ a b, PyData.eqv (i.d a) (i.d b) = true ↔ a = b
theorem eqv_int (i j : Int) : PyData.eqv (.int i) (.int j) = decide (i = j) := by rw [PyData.eqv, Bool.beq_eq_decide_eq]
instance : Eqd rInt := ⟨fun i => .int i, fun h => by cases h; exact .int _, fun _ => rfl, 0, fun _ => Nat.le_of_eq rfl⟩
instance : EqdL rInt := ⟨fun a b => by show PyData.eqv (.int a) (.int b) = true ↔ _; rw [eqv_int]; simp⟩
instance : Eqd rFr := ⟨fun q => .tuple [.int q.num, .int q.den], fun h => by
  obtain ⟨p, rfl, z⟩ := h
  exact .tup z.sq (.cons (.int _) (.cons (.int _) .nil)), fun _ => rfl, 1, fun _ => Nat.le_of_eq rfl⟩
instance : EqdL rFr := ⟨fun a b => by
  show PyData.eqv (.tuple [.int a.num, .int a.den]) (.tuple [.int b.num, .int b.den]) = true ↔ _
  rw [PyData.eqv, PyData.eqvAll, PyData.eqvAll, PyData.eqvAll, eqv_int, eqv_int]
  simp only [Bool.and_true, Bool.and_eq_true, decide_eq_true_eq]
  exact ⟨fun h => q_ext h.1 h.2, fun h => by subst h; exact ⟨rfl, rfl⟩⟩⟩

theorem dp_all {α : Type} {A : Rp α} [i : Eqd A] {K : Fg} {M : Ms} {H : Hp} : ∀ {vs : List V} {as : List α}, Paired (A K M H) vs as → DpAll K H vs (as.map i.d)
  | _, _, .nil => .nil
  | _, _, .cons r t => .cons (i.dp r) (dp_all t)
theorem lay_all {α : Type} {A : Rp α} [i : Eqd A] : ∀ as : List α, PyData.canLayAll0 (as.map i.d) = true
  | [] => rfl
  | a :: as => by
    show PyData.canLayAll0 (i.d a :: as.map i.d) = true
    rw [PyData.canLayAll0, i.sh a, lay_all as] <;> rfl
theorem dep_all {α : Type} {A : Rp α} [i : Eqd A] : ∀ as : List α, PyData.depthAll (as.map i.d) ≤ i.dep
  | [] => Nat.zero_le _
  | a :: as => by
    show PyData.depthAll (i.d a :: as.map i.d) ≤ _
    rw [PyData.depthAll]
    exact Nat.max_le.mpr ⟨i.de a, dep_all as⟩
instance {α : Type} {A : Rp α} [i : Eqd A] : Eqd (rL A) := ⟨fun as => .list (as.map i.d), fun h => by
  obtain ⟨p, vs, rfl, z, r⟩ := h
  exact .lst z.sq (dp_all r), fun as => by rw [PyData.canLay0]; exact lay_all as, i.dep + 1, fun as => by rw [PyData.depth]; exact Nat.succ_le_succ (dep_all as)⟩
theorem eqv_all {α : Type} {A : Rp α} [i : Eqd A] [j : EqdL A] : ∀ as bs : List α, PyData.eqvAll (as.map i.d) (bs.map i.d) = true ↔ as = bs
  | [], [] => by show PyData.eqvAll [] [] = true ↔ _; rw [PyData.eqvAll]; simp
  | [], b :: bs => by show PyData.eqvAll [] (i.d b :: bs.map i.d) = true ↔ _; rw [PyData.eqvAll]; simp
  | a :: as, [] => by show PyData.eqvAll (i.d a :: as.map i.d) [] = true ↔ _; rw [PyData.eqvAll]; simp
  | a :: as, b :: bs => by
    show PyData.eqvAll (i.d a :: as.map i.d) (i.d b :: bs.map i.d) = true ↔ _
    rw [PyData.eqvAll, Bool.and_eq_true, j.inj a b, eqv_all as bs]
    simp
instance {α : Type} {A : Rp α} [i : Eqd A] [j : EqdL A] : EqdL (rL A) := ⟨fun as bs => by
  show PyData.eqv (.list (as.map i.d)) (.list (bs.map i.d)) = true ↔ _
  rw [PyData.eqv]; exact eqv_all as bs⟩
instance {α β : Type} {A : Rp α} {B : Rp β} [i : Eqd A] [j : Eqd B] : Eqd (rT2 A B) := ⟨fun ab => .tuple [i.d ab.1, j.d ab.2], fun h => by
  obtain ⟨p, x, y, rfl, z, a, b⟩ := h
  exact .tup z.sq (.cons (i.dp a) (.cons (j.dp b) .nil)), fun ab => by rw [PyData.canLay0, PyData.canLayAll0, PyData.canLayAll0, PyData.canLayAll0, i.sh, j.sh] <;> rfl, max i.dep j.dep + 1, fun ab => by
    rw [PyData.depth, PyData.depthAll, PyData.depthAll, PyData.depthAll]
    have h1 := i.de ab.1
    have h2 := j.de ab.2
    omega⟩
instance {α β : Type} {A : Rp α} {B : Rp β} [i : Eqd A] [j : Eqd B] [k : EqdL A] [l : EqdL B] : EqdL (rT2 A B) := ⟨fun a b => by
  show PyData.eqv (.tuple [i.d a.1, j.d a.2]) (.tuple [i.d b.1, j.d b.2]) = true ↔ _
  rw [PyData.eqv, PyData.eqvAll, PyData.eqvAll, PyData.eqvAll, Bool.and_true, Bool.and_eq_true, k.inj, l.inj]
  exact ⟨fun h => Prod.ext h.1 h.2, fun h => by subst h; exact ⟨rfl, rfl⟩⟩⟩
theorem shaped_of {α : Type} {R : Rp α} [i : Eqd R] (h : i.dep ≤ 64) (a : α) : SeqAt.shaped (i.d a) = true := by
  unfold SeqAt.shaped
  rw [i.sh a, decide_eq_true (Nat.le_trans (i.de a) h)] <;> rfl
section
variable {α : Type} {A : Rp α} [i : Eqd A] [j : EqdL A] [DecidableEq α] {K : Fg} {M N : Ms} {H : Hp} {x y : V} {a b : α} {Q : VK}
theorem eqv_dec (a b : α) : PyData.eqv (i.d a) (i.d b) = decide (a = b) := by
  rw [Bool.eq_iff_iff, j.inj a b, decide_eq_true_eq]
theorem s_eqD (ha : A K M H x a) (hb : A K N H y b) (h : Q (.bl (decide (a = b))) H) (hd : i.dep ≤ 64 := by decide) : rEqA K x y H Q :=
  .inr ⟨i.d a, i.d b, i.dp ha, i.dp hb, shaped_of hd a, shaped_of hd b, by rw [eqv_dec]; exact h⟩
theorem s_neD (ha : A K M H x a) (hb : A K N H y b) (h : Q (.bl (!decide (a = b))) H) (hd : i.dep ≤ 64 := by decide) : rNeA K x y H Q :=
  .inr ⟨i.d a, i.d b, i.dp ha, i.dp hb, shaped_of hd a, shaped_of hd b, by rw [eqv_dec]; exact h⟩
end

/-! ## lists that are made, measured, read -/
section
variable {α : Type} {A : Rp α} {K : Fg} {M : Ms} {H : Hp} {x y : V} {as : List α} {Q : VK}
theorem s_newL [Mono A] {vs : List V} (w : Own M H) (hl : vs.length ≤ sizeLine) (hp : Paired (A K M H) vs as) (h : ∀ v H', Same H H' → rL A K M H' v as → Q v H') :
    NewL vs H Q :=
  ⟨hl, fun p n => h _ _ (Same.upd_new n) ⟨p, vs, rfl, .inl ⟨w.fresh n, .inl upd_same⟩, Prd.monoR (fun _ _ z => Rp.same (Same.upd_new n) z) hp⟩⟩
theorem s_len (h : rL A K M H x as) (k : Q (.int as.length) H) : rLen K [x] H Q := by
  obtain ⟨p, vs, rfl, z, r⟩ := h
  exact ⟨_, vs.length, rfl, .inl ⟨vs, z.sq, rfl⟩, by rw [Prd.len r]; exact k⟩
theorem s_ixL {i : Int} {j : Nat} {a : α} (h : rL A K M H x as) (hj : as[j]? = some a) (e : ixN as.length i = some j) (k : ∀ y, A K M H y a → Q y H) : rIx K x (.int i) H Q := by
  obtain ⟨p, vs, rfl, z, r⟩ := h
  obtain ⟨y, e1, e2⟩ := Prd.get r hj
  exact .inl ⟨p, vs, i, y, rfl, rfl, z.sq, by unfold atI; rw [Prd.len r, e]; exact e1, k y e2⟩
theorem ixN_nat {n j : Nat} (h : j < n) : ixN n (j : Int) = some j := by
  unfold ixN
  rw [if_pos (by omega), if_pos (by omega)]
  rfl
theorem ixN_pos {n : Nat} {i : Int} (h0 : 0 ≤ i) (h : i < n) : ixN n i = some i.toNat := by
  unfold ixN
  rw [if_pos h0, if_pos h]
end

section
variable {K : Fg} {M : Ms} {H : Hp} {Q : VK}
theorem s_newFr {r : Rat} {a b : Int} (w : Own M H) (e1 : r.num = a) (e2 : (r.den : Int) = b) (h : ∀ v H', Same H H' → rFr K M H' v r → Q v H') :
    NewT [V.int a, V.int b] H Q :=
  s_newT w fun p H' s o t => h _ _ s ⟨p, rfl, by rw [e1, e2]; exact t⟩
end
theorem s_next' {D : Ends} {σ : L2.St} {H : Hp} {t : TS} (h : t D σ H) : t D σ H := h
section
variable {K : Fg} {M : Ms} {H : Hp} {Q : VK} {σ : L2.St} {D : Ends} {i j : Int} {v w z : V}
theorem s_par {a b : Nat} {ta : TA} (h : ta σ H fun vs H1 => ∃ v w, vs = [v, w] ∧ D.nx ((σ.set a (some v)).set b (some w)) H1) : tPar a b ta D σ H := h
theorem s_par3 {a b c : Nat} {ta : TA} (h : ta σ H fun vs H1 => ∃ u v w, vs = [u, v, w] ∧ D.nx (((σ.set a (some u)).set b (some v)).set c (some w)) H1) : tPar3 a b c ta D σ H := h
theorem s_ex2 {q : V → V → Prop} (h : q v w) : ∃ v' w', [v, w] = [v', w'] ∧ q v' w' := ⟨v, w, rfl, h⟩
theorem s_ex3 {q : V → V → V → Prop} (h : q v w z) : ∃ v' w' z', [v, w, z] = [v', w', z'] ∧ q v' w' z' := ⟨v, w, z, rfl, h⟩
theorem s_modI {f : Int → Int → V} (hc : j ≠ 0) (h : Q (f i j) H) : rI (fun _ j => j ≠ 0) f (.int i) (.int j) H Q := ⟨i, j, rfl, rfl, hc, h⟩
theorem s_powI {f : Int → Int → V} (hc : CPow i j) (h : Q (f i j) H) : rI CPow f (.int i) (.int j) H Q := ⟨i, j, rfl, rfl, hc, h⟩
theorem mono_ne {c : V} {a : Nat} {σ : L2.St} {H : Hp} {Q Q' : Bool → Hp → Prop} (hq : ∀ b H1, Q b H1 → Q' b H1) (hc : tTest (tOp (rNeA K) (tVar a) (tC c)) σ H Q) : tTest (tOp (rNeA K) (tVar a) (tC c)) σ H Q' := by
  obtain ⟨v, e, hc⟩ := hc
  refine ⟨v, e, ?_⟩
  rcases hc with ⟨h1, k1, h2, h3⟩ | ⟨d1, e1, h1, h2, h3, h4, k1, h5, h6⟩
  · exact .inl ⟨h1, k1, h2, hq _ _ h3⟩
  · exact .inr ⟨d1, e1, h1, h2, h3, h4, k1, h5, hq _ _ h6⟩
end
section
variable {K : Fg} {M : Ms} {H : Hp} {Q : VK} {i j : Int} {b : Bool}
theorem s_min (h : Q (.int (min i j)) H) : rMin2 [.int i, .int j] H Q := ⟨i, j, rfl, by
  have e : (if j < i then j else i) = min i j := by split <;> omega
  rw [e]; exact h⟩
theorem s_max (h : Q (.int (max i j)) H) : rMax2 [.int i, .int j] H Q := ⟨i, j, rfl, by
  have e : (if j > i then j else i) = max i j := by split <;> omega
  rw [e]; exact h⟩
theorem s_intI (h : Q (.int i) H) : rIntC [.int i] H Q := .inl ⟨i, rfl, h⟩
theorem s_intB (h : Q (.int (if b then 1 else 0)) H) : rIntC [.bl b] H Q := .inr ⟨b, rfl, h⟩
end

theorem cxK {CX : CXT} {P : Program} {w : World} {K : Fg} {mg : Str → Option Value} {base : Heap} {N : List Str} {qual : Str} {scope : Scope} {f : Addr} {cd : Value} {A : Around} {outer : List Env} {s : Shared} {H : Hp} {E : XK} :
    (cxOf CX P w K mg base N qual scope f cd A outer s H E).nox.K = K := rfl
theorem cxK2 {CX : CXT} {P : Program} {w : World} {K : Fg} {mg : Str → Option Value} {base : Heap} {N : List Str} {qual : Str} {scope : Scope} {f : Addr} {cd : Value} {A : Around} {outer : List Env} {s : Shared} {H : Hp} {E : XK} :
    (cxOf CX P w K mg base N qual scope f cd A outer s H E).K = K := rfl
/-! ## list comprehensions -/
/-- what is left of a comprehension when its source's value has come -/
def LcK (K : Fg) (x : V) (g : TG) (tt : TT) (te : TE) (vs : List Nat) (σ : L2.St) (H1 : Hp) (Q : VK) : Prop := ∃ a, x = .ref a ∧ (∃ xs, SqL K H1 a xs) ∧ ∀ D, H1 D = none → ∃ W : Nat → Nat → Hp → Prop, (∃ m, W 0 m (upd H1 D (.lst []))) ∧ ∀ i m H, W i m H →
  ((Itl K a).stop i H ∧ Q (.ref D) H) ∨ ((Itl K a).go i H ∧ ∃ Nx : Hp → Prop, (∀ H', Nx H' → ∃ m', m' < m ∧ W (i + 1) m' H') ∧ ∀ x H', (Itl K a).yld i H x H' → g x (wipe σ vs) H' fun σ2 H2 => wipe σ2 vs = wipe σ vs ∧ tt σ2 H2 fun b H3 =>
    if b = true then te σ2 H3 fun y H4 => ∃ acc, H4 D = some (.lst acc) ∧ acc.length < sizeLine ∧ Nx (upd H4 D (.lst (acc ++ [y]))) else Nx H3)
theorem s_lc {K : Fg} {tl : TE} {g : TG} {tt : TT} {te : TE} {vs : List Nat} {σ : L2.St} {H : Hp} {Q : VK} (h : tl σ H fun x H1 => LcK K x g tt te vs σ H1 Q) : tLc (iList K tl) g tt te vs σ H Q := h

theorem small_line {n : Nat} (h : n < 100000) : n < sizeLine := Nat.lt_of_lt_of_le h (by decide)
section
variable {α β : Type} {A : Rp α} {B : Rp β} [Mono A] [Mono B] {K : Fg} {M : Ms} {g : TG} {tt : TT} {te : TE} {vs : List Nat} {σ : L2.St} {H1 : Hp} {Q : VK}
/-- one turn of a comprehension, by what follows it (Z: the element is kept; N: it is not) -/
def LcTurn (g : TG) (tt : TT) (te : TE) (vs : List Nat) (σ : L2.St) (H2 : Hp) (v : V) (Z : VK) (N : Hp → Prop) : Prop :=
  g v (wipe σ vs) H2 fun σ2 H2' => wipe σ2 vs = wipe σ vs ∧ tt σ2 H2' fun d H3 => if d = true then te σ2 H3 Z else N H3
/-- the world within: the list that is made may change, too -/
def mIn (M : Ms) (D : Addr) : Ms := fun b => M b ∨ b = D
theorem Tr.inside {M : Ms} {H H' : Hp} {D : Addr} (s : Same H H') (n : H D = none) : Tr M H (mIn M D) H' := fun b o e m => ⟨s b o e, fun z => z.elim m fun q => by subst q; rw [n] at e; cases e⟩
theorem Tr.outside {M : Ms} {H : Hp} {D : Addr} : Tr (mIn M D) H M H := fun b o e m => ⟨e, fun z => m (.inl z)⟩
theorem Tr.updM {M : Ms} {H : Hp} {D : Addr} {o : HO} : Tr (mIn M D) H (mIn M D) (upd H D o) := fun b u e m => ⟨by rw [upd_ne (fun q => m (.inr q))]; exact e, m⟩
theorem Own.inside {M : Ms} {H H' : Hp} {D : Addr} {o : HO} (w : Own M H) (s : Same H H') (h : H' D = some o) : Own (mIn M D) H' := fun b m z => m.elim (fun q => (w.same s) b q z) fun q => by subst q; rw [h] at z; cases z
theorem Own.updM {M : Ms} {H : Hp} {D : Addr} {o : HO} (w : Own (mIn M D) H) : Own (mIn M D) (upd H D o) := fun b m z => by
  by_cases e : b = D
  · subst e; rw [upd_same] at z; cases z
  · rw [upd_ne e] at z; exact w b m z
theorem Same.into {H H1 : Hp} {D : Addr} {o : HO} (s : Same H H1) (n : H D = none) : Same H (upd H1 D o) := fun b u e => by
  rw [upd_ne (ne_of_none e n)]; exact s b u e
theorem lc_map (as : List α) (c : α → Bool) (f : α → β) {x : V} (hx : rL A K M H1 x as) (w : Own M H1) (hn : as.length < 100000)
    (hs : ∀ (i : Nat) (a : α) (v : V) (M' : Ms) (H2 : Hp) (Z : VK) (N : Hp → Prop), as[i]? = some a → Tr M H1 M' H2 → Own M' H2 → A K M' H2 v a →
      (c a = true → ∀ y H4, Same H2 H4 → B K M' H4 y (f a) → Z y H4) → (c a = false → ∀ H3, Same H2 H3 → N H3) → LcTurn g tt te vs σ H2 v Z N)
    (h : ∀ D vs' H', H1 D = none → Same H1 H' → H' D = some (.lst vs') → Paired (B K M H') vs' ((as.filter c).map f) → rL B K M H' (.ref D) ((as.filter c).map f) → Q (.ref D) H') : LcK K x g tt te vs σ H1 Q := by
  obtain ⟨a, vs', rfl, hl, hp⟩ := hx
  refine ⟨a, rfl, ⟨vs', hl.sq⟩, fun D hD => ?_⟩
  have el : vs'.length = as.length := Prd.len hp
  refine lc_list (K := K) (a := a) (xs := vs') (fun i H => ∃ acc, H D = some (.lst acc) ∧ Same H1 H ∧ Paired (B K (mIn M D) H) acc (((as.take i).filter c).map f)) ?_ ?_ ?_ ?_
  · exact ⟨[], upd_same, Same.upd_new hD, .nil⟩
  · rintro i H _ ⟨acc, e, s, _⟩
    exact (hl.mono (Tr.inside s hD) : LstM K (mIn M D) H a vs').sq
  · rintro i v H hv ⟨acc, e, s, p⟩
    obtain ⟨b, hb, r⟩ := Prd.getL hp hv
    have hi : i < as.length := (List.getElem?_eq_some_iff.mp hb).1
    have et : (as.take (i + 1)) = as.take i ++ [b] := by
      rw [List.take_succ, hb]
      rfl
    have la : acc.length < sizeLine := small_line (by
      rw [Prd.len p, List.length_map]
      have h1 := List.length_filter_le c (as.take i)
      have h2 := List.length_take_le i as
      omega)
    refine hs i b v (mIn M D) H _ _ hb (Tr.inside s hD) (w.inside s e) (Mono.mono (Tr.inside s hD) r) (fun hc y H4 s4 hy => ?_) (fun hc H3 s3 => ?_)
    · refine ⟨acc, s4 _ _ e, la, acc ++ [y], upd_same, Same.into (Same.trans s s4) hD, ?_⟩
      rw [et, List.filter_append, List.map_append, show [b].filter c = [b] by simp [hc]]
      exact Prd.snoc (Mono.mono Tr.updM hy) (Prd.monoR (fun _ _ z => Mono.mono Tr.updM (Rp.same s4 z)) p)
    · refine ⟨acc, s3 _ _ e, s.trans s3, ?_⟩
      rw [et, List.filter_append, show [b].filter c = [] by simp [hc], List.append_nil]
      exact Prd.monoR (fun _ _ z => Rp.same s3 z) p
  · rintro H ⟨acc, e, s, p⟩
    rw [el, List.take_length] at p
    have p' := Prd.monoR (fun _ _ z => Mono.mono Tr.outside z) p
    exact h _ _ _ hD s e p' ⟨D, acc, rfl, .inl ⟨w.fresh hD, .inl e⟩, p'⟩
theorem s_lct {H2 : Hp} {v : V} {Z : VK} {N : Hp → Prop} (h : g v (wipe σ vs) H2 fun σ2 H2' => wipe σ2 vs = wipe σ vs ∧ tt σ2 H2' fun d H3 => if d = true then te σ2 H3 Z else N H3) : LcTurn g tt te vs σ H2 v Z N := h
theorem s_yes {R : Bool → Hp → Prop} (h : R true H1) : tYes σ H1 R := h
theorem s_wipe {p : Prop} {σ2 : L2.St} (e : σ = σ2) (h : p) : σ = σ2 ∧ p := ⟨e, h⟩
end

/-! ## the law's draws -/
def kLarge : Key := .inr "large"
def kItems : Key := .inr "items"
def kLeft : Key := .inr "left"
def kTurn : Key := .inr "turn"
def drawK (l i : Addr) (x t : Int) : List (Key × V) := [(kLarge, .ref l), (kItems, .ref i), (kLeft, .int x), (kTurn, .int t)]
theorem kne : kLarge ≠ kItems ∧ kLarge ≠ kLeft ∧ kLarge ≠ kTurn ∧ kItems ≠ kLeft ∧ kItems ≠ kTurn ∧ kLeft ≠ kTurn := by decide +kernel
theorem draw_large {l i : Addr} {x t : Int} : valV (drawK l i x t) kLarge = some (.ref l) := valV_pos rfl
theorem draw_items {l i : Addr} {x t : Int} : valV (drawK l i x t) kItems = some (.ref i) := by
  obtain ⟨h1, h2, h3, h4, h5, h6⟩ := kne
  exact (valV_neg h1).trans (valV_pos rfl)
theorem draw_left {l i : Addr} {x t : Int} : valV (drawK l i x t) kLeft = some (.int x) := by
  obtain ⟨h1, h2, h3, h4, h5, h6⟩ := kne
  exact (valV_neg h2).trans ((valV_neg h4).trans (valV_pos rfl))
theorem draw_turn {l i : Addr} {x t : Int} : valV (drawK l i x t) kTurn = some (.int t) := by
  obtain ⟨h1, h2, h3, h4, h5, h6⟩ := kne
  exact (valV_neg h3).trans ((valV_neg h5).trans ((valV_neg h6).trans (valV_pos rfl)))
theorem put_left {l i : Addr} {x t y : Int} : putK (drawK l i x t) kLeft (.int y) = drawK l i y t := by
  obtain ⟨h1, h2, h3, h4, h5, h6⟩ := kne
  unfold putK drawK
  simp [h1, h2, h3, h4, h5, h6, h1.symm, h2.symm, h3.symm, h4.symm, h5.symm, h6.symm]
theorem put_turn {l i : Addr} {x t y : Int} : putK (drawK l i x t) kTurn (.int y) = drawK l i x y := by
  obtain ⟨h1, h2, h3, h4, h5, h6⟩ := kne
  unfold putK drawK
  simp [h1, h2, h3, h4, h5, h6, h1.symm, h2.symm, h3.symm, h4.symm, h5.symm, h6.symm]
theorem merge_draw {l i : Addr} {x t : Int} : mergeK [] (drawK l i x t) = drawK l i x t := by
  obtain ⟨h1, h2, h3, h4, h5, h6⟩ := kne
  unfold mergeK drawK
  simp [putK, h1, h2, h3, h4, h5, h6, h1.symm, h2.symm, h3.symm, h4.symm, h5.symm, h6.symm]
/-- a draw stands at d, its list of large numbers at l; at most N turns were taken -/
abbrev LI := Addr × Addr
structure DrawAt (H : Hp) (d : Addr) (l : LI) (N : Nat) : Prop where
  ex : ∃ (xs ls : List Int) (x t : Int), H d = some (.dK (drawK l.1 l.2 x t)) ∧ H l.1 = some (.lst (ls.map V.int)) ∧ H l.2 = some (.lst (xs.map V.int)) ∧ l.2 ≠ l.1 ∧
    (∀ y ∈ ls, 0 ≤ y) ∧ (∀ y ∈ xs, 0 ≤ y) ∧ xs.length < 100000 ∧ ls.length < 100000 ∧ 0 ≤ x ∧ 0 ≤ t ∧ t ≤ N
/-- all but the draw is kept -/
structure But (d l : Addr) (H H' : Hp) : Prop where
  kp : ∀ b o, H b = some o → b ≠ d → b ≠ l → H' b = some o
  dd : H' d ≠ none
  ll : H' l ≠ none
theorem DrawAt.same {H H' : Hp} {d : Addr} {l : LI} {N : Nat} (s : Same H H') (h : DrawAt H d l N) : DrawAt H' d l N := by
  obtain ⟨xs, ls, x, t, h1, h2, h3, r⟩ := h.ex
  exact ⟨xs, ls, x, t, s _ _ h1, s _ _ h2, s _ _ h3, r⟩
theorem DrawAt.le {H : Hp} {d : Addr} {l : LI} {N N' : Nat} (h : DrawAt H d l N) (e : N ≤ N') : DrawAt H d l N' := by
  obtain ⟨xs, ls, x, t, h1, h2, h3, h4, h5, h6, h7, h8, h9, h10, h11⟩ := h.ex
  exact ⟨xs, ls, x, t, h1, h2, h3, h4, h5, h6, h7, h8, h9, h10, by omega⟩
theorem But.tr {M : Ms} {H H' : Hp} {d l : Addr} (b : But d l H H') (hd : M d) (hl : M l) : Tr M H M H' := fun a o e m => ⟨b.kp a o e (fun z => m (by rw [z]; exact hd)) (fun z => m (by rw [z]; exact hl)), m⟩
theorem Rp.but {α : Type} {R : Rp α} [i : Mono R] {K : Fg} {M : Ms} {H H' : Hp} {d l : Addr} {v : V} {a : α} (s : But d l H H') (hd : M d) (hl : M l) (h : R K M H v a) : R K M H' v a := i.mono (s.tr hd hl) h
theorem Own.but {M : Ms} {H H' : Hp} {d l : Addr} (s : But d l H H') (w : Own M H) : Own M H' := fun b m z => by
  by_cases e : b = d
  · subst e; exact s.dd z
  · by_cases e2 : b = l
    · subst e2; exact s.ll z
    · cases q : H b with
      | none => exact w b m q
      | some o => rw [s.kp b o q e e2] at z; cases z
/-- other lists, tuples that stand -/
theorem But.at {H H' : Hp} {d l b : Addr} {o : HO} (s : But d l H H') (h : H b = some o) (hd : b ≠ d) (hl : b ≠ l) : H' b = some o := s.kp b o h hd hl
theorem But.trans {H H1 H2 : Hp} {d l : Addr} (a : But d l H H1) (b : But d l H1 H2) : But d l H H2 := ⟨fun c o e n m => b.kp c o (a.kp c o e n m) n m, b.dd, b.ll⟩
theorem Same.notnone {H H' : Hp} {b : Addr} (s : Same H H') (h : H b ≠ none) : H' b ≠ none := by
  cases q : H b with
  | none => exact absurd q h
  | some o => rw [s _ _ q]; simp
theorem But.same {H H1 H2 : Hp} {d l : Addr} (a : But d l H H1) (b : Same H1 H2) : But d l H H2 := ⟨fun c o e n m => b c o (a.kp c o e n m), Same.notnone b a.dd, Same.notnone b a.ll⟩
theorem But.of_same {H H1 : Hp} {d : Addr} {l : LI} {N : Nat} (b : Same H H1) (h : DrawAt H d l N) : But d l.1 H H1 := by
  obtain ⟨xs, ls, x, t, h1, h2, h3, r⟩ := h.ex
  exact ⟨fun c o e n m => b c o e, Same.notnone b (by rw [h1]; simp), Same.notnone b (by rw [h2]; simp)⟩
theorem But.same' {H H1 H2 : Hp} {d l : Addr} (a : Same H H1) (b : But d l H1 H2) : But d l H H2 := ⟨fun c o e n m => b.kp c o (a c o e) n m, b.dd, b.ll⟩
theorem But.free {H H' : Hp} {d l b : Addr} (s : But d l H H') (h : H' b = none) : H b = none := by
  cases q : H b with
  | none => rfl
  | some o =>
    by_cases e : b = d
    · subst e; exact absurd h s.dd
    · by_cases e2 : b = l
      · subst e2; exact absurd h s.ll
      · rw [s.kp b o q e e2] at h; cases h
/-- what may change in a law's own run -/
def mDraw (d l : Addr) : Ms := fun b => b = d ∨ b = l
theorem DrawAt.own {H : Hp} {d : Addr} {l : LI} {N : Nat} (h : DrawAt H d l N) : Own (mDraw d l.1) H := fun b m z => by
  obtain ⟨xs, ls, x, t, h1, h2, _⟩ := h.ex
  rcases m with rfl | rfl
  · rw [h1] at z; cases z
  · rw [h2] at z; cases z
/-! ## steps: dicts, cuts -/
def rDGet (x y : V) (H : Hp) (Q : VK) : Prop := ∃ a v, x = .ref a ∧ DGet H a y (some v) ∧ Q v H
def rDPut (x y v : V) (H : Hp) (R : Hp → Prop) : Prop := ∃ a H4, x = .ref a ∧ DPut H a y v H4 ∧ R H4
section
variable {K : Fg} {M : Ms} {H : Hp} {σ : L2.St} {D : Ends} {Q : VK} {t u : TS} {td ty tv te : TE} {x y v : V}
theorem s_dget (h : td σ H fun x H1 => ty σ H1 fun y H2 => rDGet x y H2 Q) : tDGet td ty σ H Q := h
theorem s_dput (h : tv σ H fun v H1 => td σ H1 fun x H2 => ty σ H2 fun y H3 => rDPut x y v H3 (D.nx σ)) : sDPut td ty tv D σ H := h
theorem s_dgetK {a : Addr} {kvs : List (Key × V)} {k : Key} (h : H a = some (.dK kvs)) (e : valV kvs k = some v) (q : Q v H) : rDGet (.ref a) (kV k) H Q := ⟨a, v, rfl, by rw [← e]; exact DGet.k h, q⟩
theorem s_dputK {a : Addr} {kvs : List (Key × V)} {k : Key} {R : Hp → Prop} (h : H a = some (.dK kvs)) (hl : kvs.length < sizeLine) (q : R (upd H a (.dK (putK kvs k v)))) : rDPut (.ref a) (kV k) v H R := ⟨a, _, rfl, DPut.k h hl, q⟩
theorem s_bm {T : String} {r : V → List V → Hp → VK → Prop} {t : TA} (h : te σ H fun x H1 => tyV K T x H1 ∧ t σ H1 fun xs H2 => r x xs H2 Q) : tBM K T r te t σ H Q := h
theorem s_bm0 {T : String} {r : V → List V → Hp → VK → Prop} (h : te σ H fun x H1 => tyV K T x H1 ∧ r x [] H1 Q) : tBM0 K T r te σ H Q := h
theorem s_cut (I : L2.St → Hp → Prop) (h2 : ∀ σ' H', I σ' H' → u D σ' H') (h1 : ∀ N : L2.St → Hp → Prop, (∀ σ' H', I σ' H' → N σ' H') → t { D with nx := N } σ H) : tSeq t u D σ H := h1 _ h2
variable {d l i : Addr} {a b : Int}
theorem s_getLarge (h : H d = some (.dK (drawK l i a b))) (q : Q (.ref l) H) : rDGet (.ref d) (.str "large") H Q := s_dgetK (k := kLarge) h draw_large q
theorem s_getItems (h : H d = some (.dK (drawK l i a b))) (q : Q (.ref i) H) : rDGet (.ref d) (.str "items") H Q := s_dgetK (k := kItems) h draw_items q
theorem s_getLeft (h : H d = some (.dK (drawK l i a b))) (q : Q (.int a) H) : rDGet (.ref d) (.str "left") H Q := s_dgetK (k := kLeft) h draw_left q
theorem s_getTurn (h : H d = some (.dK (drawK l i a b))) (q : Q (.int b) H) : rDGet (.ref d) (.str "turn") H Q := s_dgetK (k := kTurn) h draw_turn q
theorem s_putLeft {c : Int} {R : Hp → Prop} (h : H d = some (.dK (drawK l i a b))) (q : R (upd H d (.dK (drawK l i c b)))) : rDPut (.ref d) (.str "left") (.int c) H R := s_dputK (k := kLeft) h (by show 4 < sizeLine; decide) (by rw [put_left]; exact q)
theorem s_putTurn {c : Int} {R : Hp → Prop} (h : H d = some (.dK (drawK l i a b))) (q : R (upd H d (.dK (drawK l i a c)))) : rDPut (.ref d) (.str "turn") (.int c) H R := s_dputK (k := kTurn) h (by show 4 < sizeLine; decide) (by rw [put_turn]; exact q)
theorem prd_ints {K : Fg} {M : Ms} {H : Hp} : ∀ ns : List Int, Paired (rInt K M H) (ns.map V.int) ns
  | [] => .nil
  | _ :: ns => .cons rfl (prd_ints ns)
theorem ints_prd {K : Fg} {M : Ms} {H : Hp} : ∀ {vs : List V} {ns : List Int}, Paired (rInt K M H) vs ns → vs = ns.map V.int
  | _, _, .nil => rfl
  | _, _, .cons h t => by rw [show _ = _ from h, ints_prd t]; rfl
/-- a list of ints that stands -/
theorem rL_ints {p : Addr} {ns : List Int} (h : H p = some (.lst (ns.map V.int))) : rL rInt K (fun _ => False) H (.ref p) ns := ⟨p, _, rfl, .inl ⟨fun z => z, .inl h⟩, prd_ints ns⟩
theorem rL_nil {p : Addr} : rL rInt K (fun _ => False) (upd H p (.lst [])) (.ref p) [] := rL_ints (ns := []) upd_same
theorem s_newNil (h : ∀ p H', Same H H' → rL rInt K (fun _ => False) H' (.ref p) [] → Q (.ref p) H') : NewL [] H Q :=
  ⟨Nat.zero_le _, fun p n => h p _ (Same.upd_new n) rL_nil⟩
theorem bd64 {i : Int} (h : i.natAbs < 2 ^ 64) : Bd 64 i := h
end
/-- n / d -/
def sp_div (K : Fg) : Sp := fun vs H Q _ => ∃ (M : Ms) (n d : Int) (k : Nat), vs = [.int n, .int d] ∧ d ≠ 0 ∧ Bd k d ∧ k < 9000 ∧ Own M H ∧ ∀ v H', Same H H' → rFr K M H' v ((n : Rat) / (d : Rat)) → Q v H'
theorem c_div {K : Fg} {M : Ms} {H : Hp} {Q : VK} {E : XK} {n d : Int} {k : Nat} (hd : d ≠ 0) (hb : Bd k d) (hk : k < 9000) (ow : Own M H) (h : ∀ v H', Same H H' → rFr K M H' v ((n : Rat) / (d : Rat)) → Q v H') :
    sp_div K ([.int n, .int d] ++ []) H Q E := ⟨M, n, d, k, rfl, hd, hb, hk, ow, h⟩
theorem seq_zero {n : Nat} (h : 0 < n) : seqIndex? 0 n = some 0 := (ixN_seq (show ixN n ((0 : Nat) : Int) = some 0 from ixN_nat h)).1
theorem Rp.same2 {α : Type} {R : Rp α} {K : Fg} {M : Ms} {H H' : Hp} {v : V} {a : α} (s : Same H H') (h : R K M H v a) (i : Mono R) : R K M H' v a := i.mono (Ext.of_same s).tr h
theorem Rp.but2 {α : Type} {R : Rp α} {K : Fg} {M : Ms} {H H' : Hp} {d l : Addr} {v : V} {a : α} (s : But d l H H') (hd : M d) (hl : M l) (h : R K M H v a) (i : Mono R) : R K M H' v a := i.mono (s.tr hd hl) h
/-- another list is stored into: the draw stands -/
theorem DrawAt.upd {H : Hp} {d : Addr} {l : LI} {N : Nat} {r : Addr} {o : HO} (h : DrawAt H d l N) (nd : r ≠ d) (n1 : r ≠ l.1) (n2 : r ≠ l.2) : DrawAt (upd H r o) d l N := by
  obtain ⟨xs, ls, x, t, h1, h2, h3, q⟩ := h.ex
  exact ⟨xs, ls, x, t, by rw [upd_ne nd.symm]; exact h1, by rw [upd_ne n1.symm]; exact h2, by rw [upd_ne n2.symm]; exact h3, q⟩
theorem DrawAt.apart {H : Hp} {d : Addr} {l : LI} {N : Nat} {r : Addr} (h : DrawAt H d l N) (n : H r = none) : r ≠ d ∧ r ≠ l.1 ∧ r ≠ l.2 := by
  obtain ⟨xs, ls, x, t, h1, h2, h3, q⟩ := h.ex
  exact ⟨(ne_of_none h1 n).symm, (ne_of_none h2 n).symm, (ne_of_none h3 n).symm⟩

/-! ## isinstance -/
theorem kb_ii : kitB "int" "int" = some true := by decide +kernel
theorem kb_ib : kitB "int" "bool" = some false := by decide +kernel
theorem kb_it : kitB "int" "tuple" = some false := by decide +kernel
theorem kb_il : kitB "int" "list" = some false := by decide +kernel
theorem kb_bi : kitB "bool" "int" = some true := by decide +kernel
theorem kb_bb : kitB "bool" "bool" = some true := by decide +kernel
theorem kb_bt : kitB "bool" "tuple" = some false := by decide +kernel
theorem kb_bl : kitB "bool" "list" = some false := by decide +kernel
theorem kb_ti : kitB "tuple" "int" = some false := by decide +kernel
theorem kb_tb : kitB "tuple" "bool" = some false := by decide +kernel
theorem kb_tt : kitB "tuple" "tuple" = some true := by decide +kernel
theorem kb_tl : kitB "tuple" "list" = some false := by decide +kernel
theorem kb_li : kitB "list" "int" = some false := by decide +kernel
theorem kb_lb : kitB "list" "bool" = some false := by decide +kernel
theorem kb_lt : kitB "list" "tuple" = some false := by decide +kernel
theorem kb_ll : kitB "list" "list" = some true := by decide +kernel
theorem kb_si : kitB "str" "int" = some false := by decide +kernel
theorem kb_sb : kitB "str" "bool" = some false := by decide +kernel
theorem kb_st : kitB "str" "tuple" = some false := by decide +kernel
theorem kb_sl : kitB "str" "list" = some false := by decide +kernel
theorem kb_ni : kitB "NoneType" "int" = some false := by decide +kernel
theorem kb_nb : kitB "NoneType" "bool" = some false := by decide +kernel
theorem kb_nt : kitB "NoneType" "tuple" = some false := by decide +kernel
theorem kb_nl : kitB "NoneType" "list" = some false := by decide +kernel
theorem kb_di : kitB "dict" "int" = some false := by decide +kernel
theorem kb_db : kitB "dict" "bool" = some false := by decide +kernel
theorem kb_dt : kitB "dict" "tuple" = some false := by decide +kernel
theorem kb_dl : kitB "dict" "list" = some false := by decide +kernel
section
variable {K : Fg} {M : Ms} {H : Hp} {Q : VK} {x : V} {n : String} {b : Bool} {i : Int}
theorem s_isi {t : String} (ty : TyX K H x (.type t)) (e : kitB t n = some b) (q : Q (.bl b) H) : rIsi K [x, .ty n] H Q := ⟨x, .ty n, .type t, .type n, b, rfl, .ty n, ty, kit_ty e, q⟩
theorem s_isiI (e : kitB "int" n = some b) (q : Q (.bl b) H) : rIsi K [.int i, .ty n] H Q := s_isi (.base (.int i)) e q
theorem s_isiB {c : Bool} (e : kitB "bool" n = some b) (q : Q (.bl b) H) : rIsi K [.bl c, .ty n] H Q := s_isi (.base (.bl c)) e q
theorem TupM.ty {p : Addr} {xs : List V} (h : TupM K M H p xs) : TyX K H (.ref p) (.type "tuple") := by
  rcases h with ⟨_, e⟩ | ⟨o, its, m, e, c, _⟩
  · exact .base (.tup e)
  · exact .kTuple e c
theorem LstM.ty {p : Addr} {xs : List V} (h : LstM K M H p xs) : TyX K H (.ref p) (.type "list") := by
  rcases h with ⟨_, e | ⟨o, e⟩⟩ | ⟨o, its, m, e, c, _⟩
  · exact .base (.lst e)
  · exact .base (.frz e)
  · exact .kList e c
theorem s_isiFr {q : Rat} (h : rFr K M H x q) (e : kitB "tuple" n = some b) (k : Q (.bl b) H) : rIsi K [x, .ty n] H Q := by
  obtain ⟨p, rfl, z⟩ := h
  exact s_isi z.ty e k
theorem s_isiT2 {α β : Type} {A : Rp α} {B : Rp β} {ab : α × β} (h : rT2 A B K M H x ab) (e : kitB "tuple" n = some b) (k : Q (.bl b) H) : rIsi K [x, .ty n] H Q := by
  obtain ⟨p, y, z, rfl, w, _⟩ := h
  exact s_isi w.ty e k
theorem s_isiL {α : Type} {A : Rp α} {as : List α} (h : rL A K M H x as) (e : kitB "list" n = some b) (k : Q (.bl b) H) : rIsi K [x, .ty n] H Q := by
  obtain ⟨p, vs, rfl, w, _⟩ := h
  exact s_isi w.ty e k
theorem s_lenFr {q : Rat} (h : rFr K M H x q) (k : Q (.int 2) H) : rLen K [x] H Q := by
  obtain ⟨p, rfl, z⟩ := h
  exact ⟨_, 2, rfl, .inr ⟨_, z.sq, rfl⟩, k⟩
theorem s_lenT2 {α β : Type} {A : Rp α} {B : Rp β} {ab : α × β} (h : rT2 A B K M H x ab) (k : Q (.int 2) H) : rLen K [x] H Q := by
  obtain ⟨p, y, z, rfl, w, _⟩ := h
  exact ⟨_, 2, rfl, .inr ⟨_, w.sq, rfl⟩, k⟩
variable {N : Ms} {y : V}
theorem s_eqFr {a b : Rat} (ha : rFr K M H x a) (hb : rFr K N H y b) (h : Q (.bl (decide (a = b))) H) : rEqA K x y H Q := s_eqD ha hb h (by decide)
theorem s_neFr {a b : Rat} (ha : rFr K M H x a) (hb : rFr K N H y b) (h : Q (.bl (!decide (a = b))) H) : rNeA K x y H Q := s_neD ha hb h (by decide)
theorem s_eqLFr {a b : List Rat} (ha : rL rFr K M H x a) (hb : rL rFr K N H y b) (h : Q (.bl (decide (a = b))) H) : rEqA K x y H Q := s_eqD ha hb h (by decide)
theorem s_neLFr {a b : List Rat} (ha : rL rFr K M H x a) (hb : rL rFr K N H y b) (h : Q (.bl (!decide (a = b))) H) : rNeA K x y H Q := s_neD ha hb h (by decide)
theorem s_iteNF {A B : Prop} (h : A) : if (!false) = true then A else B := by rw [if_pos (show (!false) = true from rfl)]; exact h
theorem s_iteNT {A B : Prop} (h : B) : if (!true) = true then A else B := by rw [if_neg (show ¬ (!true) = true by decide)]; exact h
theorem s_iteKT {A B : Prop} {p : Prop} {dp : Decidable p} (e : p) (h : A) : if decide p = true then A else B := by rw [if_pos (decide_eq_true e)]; exact h
theorem s_iteKF {A B : Prop} {p : Prop} {dp : Decidable p} (e : ¬ p) (h : B) : if decide p = true then A else B := by rw [if_neg (by simpa using e)]; exact h
theorem s_iteNKT {A B : Prop} {p : Prop} {dp : Decidable p} (e : p) (h : B) : if (!decide p) = true then A else B := by rw [if_neg (by simpa using e)]; exact h
theorem s_iteNKF {A B : Prop} {p : Prop} {dp : Decidable p} (e : ¬ p) (h : A) : if (!decide p) = true then A else B := by rw [if_pos (by simpa using e)]; exact h
end
/-! ## for over a range -/
def ForR (n : Nat) (g : TG) (tb : TS) (D : Ends) (σ : L2.St) (H1 : Hp) : Prop := ∃ W : Nat → Nat → L2.St → Hp → Prop, (∃ m, W 0 m σ H1) ∧ ∀ i m σ H, W i m σ H →
  ((Itr 0 n).stop i H ∧ D.nx σ H) ∨ ((Itr 0 n).go i H ∧ ∃ N : L2.St → Hp → Prop, (∀ σ' H', N σ' H' → ∃ m', m' < m ∧ W (i + 1) m' σ' H') ∧ ∀ x H', (Itr 0 n).yld i H x H' → g x σ H' fun σ2 H2 => tb { D with nx := N, ct := N, bk := D.nx } σ2 H2)
def rRng (n : Int) (R : Nat → Prop) : Prop := -(2 ^ 62) ≤ n ∧ n < 2 ^ 62 ∧ R n.toNat
theorem s_rng {n : Int} {R : Nat → Prop} (h : -4611686018427387904 ≤ n ∧ n < 4611686018427387904) (k : R n.toNat) : rRng n R := ⟨h.1, h.2, k⟩
theorem s_forR1 {ta : TA} {g : TG} {tb : TS} {D : Ends} {σ : L2.St} {H : Hp} (h : ta σ H fun vs H1 => ∃ j : Int, vs = [.int j] ∧ rRng j fun n => ForR n g tb D σ H1) : tFor (iRng1 ta) g tb D σ H := h
theorem s_rng1 {i : Int} {R : Int → Prop} (h : R i) : ∃ j : Int, [V.int i] = [V.int j] ∧ R j := ⟨i, rfl, h⟩
theorem forR_by {n : Nat} {g : TG} {tb : TS} {D : Ends} {σ : L2.St} {H : Hp} (Pv : Nat → L2.St → Hp → Prop) (h0 : Pv 0 σ H)
    (hs : ∀ (i : Nat) σ H (N : L2.St → Hp → Prop), i < n → Pv i σ H → (∀ σ' H', Pv (i + 1) σ' H' → N σ' H') → g (.int (i : Int)) σ H fun σ2 H2 => tb { D with nx := N, ct := N, bk := D.nx } σ2 H2) (hd : ∀ σ H, Pv n σ H → D.nx σ H) : ForR n g tb D σ H :=
  for_range (lo := 0) (n := n) Pv h0 (fun i σ H hi p => by
    rw [show (0 : Int) + (i : Int) = (i : Int) by omega]
    exact hs i σ H _ hi p fun _ _ z => z) hd

/-! ## any value -/
inductive Ob where
  | int (i : Int) | bl (b : Bool) | str | non | dic | tup (xs : List Ob) | lst (xs : List Ob)
mutual
inductive OA (K : Fg) (M : Ms) (H : Hp) : V → Ob → Prop
  | int (i : Int) : OA K M H (.int i) (.int i)
  | bl (b : Bool) : OA K M H (.bl b) (.bl b)
  | str (s : Str) : OA K M H (.str s) .str
  | non : OA K M H .non .non
  | dic {p : Addr} {kvs : List (Key × V)} : ¬ M p → H p = some (.dK kvs) → OA K M H (.ref p) .dic
  | tup {p : Addr} {vs : List V} {xs : List Ob} : TupM K M H p vs → OAs K M H vs xs → OA K M H (.ref p) (.tup xs)
  | lst {p : Addr} {vs : List V} {xs : List Ob} : LstM K M H p vs → OAs K M H vs xs → OA K M H (.ref p) (.lst xs)
inductive OAs (K : Fg) (M : Ms) (H : Hp) : List V → List Ob → Prop
  | nil : OAs K M H [] []
  | cons {v : V} {vs : List V} {o : Ob} {os : List Ob} : OA K M H v o → OAs K M H vs os → OAs K M H (v :: vs) (o :: os)
end
section
variable {K : Fg} {M M' : Ms} {H H' : Hp}
mutual
theorem OA.mono (t : Tr M H M' H') : ∀ {o : Ob} {v : V}, OA K M H v o → OA K M' H' v o
  | .int i, _, h => by cases h; exact .int i
  | .bl b, _, h => by cases h; exact .bl b
  | .str, _, h => by cases h; exact .str _
  | .non, _, h => by cases h; exact .non
  | .dic, _, h => by
    cases h with
    | dic n e => exact .dic (t _ _ e n).2 (t _ _ e n).1
  | .tup xs, _, h => by
    cases h with
    | tup a b => exact .tup (a.mono t) (OAs.mono t b)
  | .lst xs, _, h => by
    cases h with
    | lst a b => exact .lst (a.mono t) (OAs.mono t b)
theorem OAs.mono (t : Tr M H M' H') : ∀ {os : List Ob} {vs : List V}, OAs K M H vs os → OAs K M' H' vs os
  | [], _, h => by cases h; exact .nil
  | o :: os, _, h => by
    cases h with
    | cons a b => exact .cons (OA.mono t a) (OAs.mono t b)
end
theorem OAs.of_prd : ∀ {vs : List V} {os : List Ob}, Paired (OA K M H) vs os → OAs K M H vs os
  | _, _, .nil => .nil
  | _, _, .cons a b => .cons a (OAs.of_prd b)
theorem OAs.prd : ∀ {os : List Ob} {vs : List V}, OAs K M H vs os → Paired (OA K M H) vs os
  | [], _, h => by cases h; exact .nil
  | o :: os, _, h => by
    cases h with
    | cons a b => exact .cons a (OAs.prd b)
end
def rOb : Rp Ob := OA
instance : Mono rOb := ⟨fun t h => OA.mono t h⟩
def Ob.ty : Ob → String
  | .int _ => "int" | .bl _ => "bool" | .str => "str" | .non => "NoneType" | .dic => "dict" | .tup _ => "tuple" | .lst _ => "list"
def Ob.isInt : Ob → Bool | .int _ => true | _ => false
def Ob.isTup : Ob → Bool | .tup _ => true | _ => false
def Ob.isLst : Ob → Bool | .lst _ => true | _ => false
def Ob.isBl : Ob → Bool | .bl _ => true | _ => false
/-- is_fraction's answer -/
def Ob.isFr : Ob → Bool
  | .tup [.int n, .int d] => decide (1 ≤ d) && decide (Nat.gcd n.natAbs d.natAbs = 1)
  | _ => false
theorem kb_oi (o : Ob) : kitB o.ty "int" = some (o.isInt || o.isBl) := by cases o <;> first | exact kb_ii | exact kb_bi | exact kb_si | exact kb_ni | exact kb_di | exact kb_ti | exact kb_li
theorem kb_ob (o : Ob) : kitB o.ty "bool" = some o.isBl := by cases o <;> first | exact kb_ib | exact kb_bb | exact kb_sb | exact kb_nb | exact kb_db | exact kb_tb | exact kb_lb
theorem kb_ot (o : Ob) : kitB o.ty "tuple" = some o.isTup := by cases o <;> first | exact kb_it | exact kb_bt | exact kb_st | exact kb_nt | exact kb_dt | exact kb_tt | exact kb_lt
theorem kb_ol (o : Ob) : kitB o.ty "list" = some o.isLst := by cases o <;> first | exact kb_il | exact kb_bl | exact kb_sl | exact kb_nl | exact kb_dl | exact kb_tl | exact kb_ll
section
variable {K : Fg} {M : Ms} {H : Hp} {Q : VK} {v : V} {o : Ob} {n : String} {b : Bool}
theorem OA.tyx (h : OA K M H v o) : TyX K H v (.type o.ty) := by
  cases h with
  | int i => exact .base (.int i)
  | bl b => exact .base (.bl b)
  | str s => exact .base (.str s)
  | non => exact .base .non
  | dic n e => exact .base (.dK e)
  | tup a b => exact a.ty
  | lst a b => exact a.ty
theorem s_isiO (h : rOb K M H v o) (e : kitB o.ty n = some b) (q : Q (.bl b) H) : rIsi K [v, .ty n] H Q := s_isi (OA.tyx h) e q
theorem fr_ob {q : Rat} (h : rFr K M H v q) : rOb K M H v (.tup [.int q.num, .int q.den]) := by
  obtain ⟨p, rfl, t⟩ := h
  exact .tup t (.cons (.int _) (.cons (.int _) .nil))
theorem isFr_rat (q : Rat) : (Ob.tup [.int q.num, .int q.den]).isFr = true := by
  have := q.den_pos
  have h2 := q.reduced
  unfold Nat.Coprime at h2
  simp [Ob.isFr, h2]
  omega
theorem OA.tup_inv {xs : List Ob} (h : rOb K M H v (.tup xs)) : ∃ p vs, v = .ref p ∧ TupM K M H p vs ∧ Paired (OA K M H) vs xs := by
  cases h with
  | tup a b => exact ⟨_, _, rfl, a, OAs.prd b⟩
theorem OA.lst_inv {xs : List Ob} (h : rOb K M H v (.lst xs)) : ∃ p vs, v = .ref p ∧ LstM K M H p vs ∧ Paired (OA K M H) vs xs := by
  cases h with
  | lst a b => exact ⟨_, _, rfl, a, OAs.prd b⟩
theorem s_lenOT {xs : List Ob} (h : rOb K M H v (.tup xs)) (k : Q (.int xs.length) H) : rLen K [v] H Q := by
  obtain ⟨p, vs, rfl, t, r⟩ := OA.tup_inv h
  exact ⟨_, vs.length, rfl, .inr ⟨vs, t.sq, rfl⟩, by rw [Prd.len r]; exact k⟩
theorem s_lenOL {xs : List Ob} (h : rOb K M H v (.lst xs)) (k : Q (.int xs.length) H) : rLen K [v] H Q := by
  obtain ⟨p, vs, rfl, t, r⟩ := OA.lst_inv h
  exact ⟨_, vs.length, rfl, .inl ⟨vs, t.sq, rfl⟩, by rw [Prd.len r]; exact k⟩
/-- a new tuple, a new list of anything -/
theorem s_newTO {vs : List V} {os : List Ob} (w : Own M H) (hl : vs.length ≤ sizeLine) (hp : Paired (OA K M H) vs os) (h : ∀ v H', Same H H' → rOb K M H' v (.tup os) → Q v H') : NewT vs H Q :=
  ⟨hl, fun p n => h _ _ (Same.upd_new n) (.tup (.inl ⟨w.fresh n, upd_same⟩) (OAs.of_prd (Prd.monoR (fun _ _ z => OA.mono (Ext.of_same (Same.upd_new n)).tr z) hp)))⟩
theorem s_newLO {vs : List V} {os : List Ob} (w : Own M H) (hl : vs.length ≤ sizeLine) (hp : Paired (OA K M H) vs os) (h : ∀ p H', Same H H' → H' p = some (.lst vs) → rOb K M H' (.ref p) (.lst os) → Q (.ref p) H') : NewL vs H Q :=
  ⟨hl, fun p n => h _ _ (Same.upd_new n) upd_same (.lst (.inl ⟨w.fresh n, .inl upd_same⟩) (OAs.of_prd (Prd.monoR (fun _ _ z => OA.mono (Ext.of_same (Same.upd_new n)).tr z) hp)))⟩
/-- (a, b, ..) = a tuple, item by item -/
theorem s_gtup {n : Nat} {t : TGs} {p : Addr} {xs : List V} {σ : L2.St} {R : L2.St → Hp → Prop} (h : SqT K H p xs) (e : xs.length = n) (q : t xs σ H R) : gTup K n t (.ref p) σ H R := ⟨p, xs, rfl, h, e, q⟩
theorem s_gcons {t : TG} {u : TGs} {x : V} {xs : List V} {σ : L2.St} {R : L2.St → Hp → Prop} (q : t x σ H fun σ' H' => u xs σ' H' R) : gCons t u (x :: xs) σ H R := ⟨x, xs, rfl, q⟩
theorem s_gnil {σ : L2.St} {R : L2.St → Hp → Prop} (q : R σ H) : gNil [] σ H R := ⟨rfl, q⟩
/-- an item of a tuple of anything -/
theorem s_ixTO {xs : List V} {p : Addr} {i : Int} {y : V} (h : TupM K M H p xs) (e : atI xs i = some y) (q : Q y H) : rIx K (.ref p) (.int i) H Q := .inr (.inl ⟨p, xs, i, y, rfl, rfl, h.sq, e, q⟩)
/-- {} -/
theorem s_newD {R : V → Hp → Prop} (w : Own M H) (h : ∀ v H', Same H H' → rOb K M H' v .dic → R v H') : ∀ d, H d = none → R (.ref d) (upd H d (.dK [])) :=
  fun d n => h _ _ (Same.upd_new n) (.dic (w.fresh n) upd_same)
theorem fr_low {n d : Int} (hd : 0 < d) : (((n : Rat) / (d : Rat)).num = n ∧ (((n : Rat) / (d : Rat)).den : Int) = d) ↔ Nat.gcd n.natAbs d.natAbs = 1 := by
  refine ⟨fun ⟨h1, h2⟩ => ?_, fun h => rat_parts (by omega) hd h rfl⟩
  have r := ((n : Rat) / (d : Rat)).reduced
  unfold Nat.Coprime at r
  rw [h1] at r
  have e : ((n : Rat) / (d : Rat)).den = d.natAbs := by omega
  rw [e] at r
  exact r
end
def sp_whole (K : Fg) : Sp := fun vs H Q _ => ∃ (M : Ms) (v : V) (o : Ob), vs = [v] ∧ rOb K M H v o ∧ Q (.bl o.isInt) H
theorem c_whole {K : Fg} {M : Ms} {H : Hp} {Q : VK} {E : XK} {v : V} {o : Ob} (h : rOb K M H v o) (q : Q (.bl o.isInt) H) : sp_whole K ([v] ++ []) H Q E := ⟨M, v, o, rfl, h, q⟩
section
variable {α : Type} {A : Rp α} {K : Fg} {M : Ms} {H H' : Hp} {Q : VK} {p q : Addr} {vs ws : List V} {as bs : List α}
theorem s_newLx [Mono A] (w : Own M H) (hl : vs.length ≤ sizeLine) (hp : Paired (A K M H) vs as) (h : ∀ p H', Same H H' → H' p = some (.lst vs) → Paired (A K M H') vs as → Q (.ref p) H') : NewL vs H Q :=
  ⟨hl, fun p n => h _ _ (Same.upd_new n) upd_same (Prd.monoR (fun _ _ z => Rp.same (Same.upd_new n) z) hp)⟩
theorem Prd.same [Mono A] (s : Same H H') (hp : Paired (A K M H) vs as) : Paired (A K M H') vs as := Prd.monoR (fun _ _ z => Rp.same s z) hp
theorem s_cat [Mono A] (w : Own M H) (e1 : H p = some (.lst vs)) (e2 : H q = some (.lst ws)) (h1 : Paired (A K M H) vs as) (h2 : Paired (A K M H) ws bs) (hl : as.length + bs.length < 100000)
    (h : ∀ v H', Same H H' → rL A K M H' v (as ++ bs) → Q v H') : rAddA K (.ref p) (.ref q) H Q :=
  .inr (.inl ⟨p, q, vs, ws, rfl, rfl, e1, e2, Nat.le_of_lt (small_line (by rw [Prd.len h1, Prd.len h2]; exact hl)), fun c n => h _ _ (Same.upd_new n) ⟨c, _, rfl, .inl ⟨w.fresh n, .inl upd_same⟩, Prd.append (Prd.same (Same.upd_new n) h1) (Prd.same (Same.upd_new n) h2)⟩⟩)
theorem TupM.same (s : Same H H') (h : TupM K M H p vs) : TupM K M H' p vs := h.mono (Ext.of_same s).tr
theorem fr_t2 {v : V} {r : Rat} (h : rFr K M H v r) : rT2 rInt rInt K M H v (r.num, (r.den : Int)) := by
  obtain ⟨p, rfl, t⟩ := h
  exact ⟨p, _, _, rfl, t, rfl, rfl⟩
theorem tup_t2 {m n : Int} (h : TupM K M H p [.int m, .int n]) : rT2 rInt rInt K M H (.ref p) (m, n) := ⟨p, _, _, rfl, h, rfl, rfl⟩
theorem ob_t2 {v : V} {m n : Int} (h : rOb K M H v (.tup [.int m, .int n])) : rT2 rInt rInt K M H v (m, n) := by
  obtain ⟨p, vs, rfl, t, r⟩ := OA.tup_inv h
  cases r with
  | cons a r =>
    cases r with
    | cons b r =>
      cases r
      cases a
      cases b
      exact tup_t2 t
end
theorem len_ok {vs : List V} (h : vs.length < 100000) : vs.length ≤ sizeLine := Nat.le_of_lt (small_line h)
theorem isFr_no {xs : List Ob} (h : xs.length ≠ 2) : (Ob.tup xs).isFr = false := by
  match xs with
  | [] => rfl
  | [_] => simp [Ob.isFr]
  | [_, _] => simp at h
  | _ :: _ :: _ :: _ => simp [Ob.isFr]
theorem isFr_two (a b : Ob) : (Ob.tup [a, b]).isFr = (a.isInt && b.isInt && (match a, b with | .int n, .int d => decide (1 ≤ d) && decide (Nat.gcd n.natAbs d.natAbs = 1) | _, _ => false)) := by
  cases a <;> cases b <;> simp [Ob.isFr, Ob.isInt]
theorem isInt_inv {o : Ob} (h : o.isInt = true) : ∃ i, o = .int i := by cases o <;> simp_all [Ob.isInt]
theorem s_dnewO {K : Fg} {M : Ms} {H : Hp} {σ : L2.St} {Q : VK} (w : Own M H) (h : ∀ v H', Same H H' → rOb K M H' v .dic → Q v H') : tDNewK σ H Q := s_newD w h
theorem At.same {H H' : Hp} {p : Addr} {o : HO} (s : Same H H') (h : H p = some o) : H' p = some o := s _ _ h

/-! ## changed knots: what at, pace and the way answer for them -/
theorem cnt_map {f : Kn → Kn} {ks : List Kn} {t u : Rat} (h : ∀ k, (f k).1 ≤ u ↔ k.1 ≤ t) : cntLe (ks.map f) u = cntLe ks t := by
  unfold cntLe
  rw [List.countP_map]
  apply List.countP_congr
  intro k _
  simp [h k]
/-- f keeps the times, multiplies the places -/
theorem pace_scale {f : Kn → Kn} {ks : List Kn} {s : Rat} (h1 : ∀ k, (f k).1 = k.1) (h2 : ∀ k, (f k).2 = k.2 * s) (i : Nat) : paceB (ks.map f) i = paceB ks i * s := by
  unfold paceB
  rw [List.getElem?_map, List.getElem?_map]
  cases ks[i]? with
  | none => simp [Rat.zero_mul]
  | some a =>
    cases ks[i + 1]? with
    | none => simp [Rat.zero_mul]
    | some b =>
      simp only [Option.map, h1, h2]
      rw [Rat.div_def, Rat.div_def]
      grind
theorem pos_scale {f : Kn → Kn} {ks : List Kn} {s : Rat} (h1 : ∀ k, (f k).1 = k.1) (h2 : ∀ k, (f k).2 = k.2 * s) (t : Rat) : posAt (ks.map f) t = posAt ks t * s := by
  unfold posAt
  rw [cnt_map (t := t) (by intro k; rw [h1]), pace_scale h1 h2, List.getElem?_map]
  cases ks[cntLe ks t - 1]? with
  | none => simp [Rat.zero_mul]
  | some a =>
    simp only [Option.map, h1, h2]
    grind
/-- f keeps the times, adds to the places -/
theorem pace_move {f : Kn → Kn} {ks : List Kn} {s : Rat} (h1 : ∀ k, (f k).1 = k.1) (h2 : ∀ k, (f k).2 = k.2 + s) (i : Nat) : paceB (ks.map f) i = paceB ks i := by
  unfold paceB
  rw [List.getElem?_map, List.getElem?_map]
  cases ks[i]? with
  | none => simp
  | some a =>
    cases ks[i + 1]? with
    | none => simp
    | some b =>
      simp only [Option.map, h1, h2]
      congr 1
      grind
theorem pos_move {f : Kn → Kn} {ks : List Kn} {s : Rat} (h1 : ∀ k, (f k).1 = k.1) (h2 : ∀ k, (f k).2 = k.2 + s) (h0 : 0 < ks.length) (t : Rat) : posAt (ks.map f) t = posAt ks t + s := by
  unfold posAt
  rw [cnt_map (t := t) (by intro k; rw [h1]), pace_move h1 h2, List.getElem?_map]
  have hl : cntLe ks t - 1 < ks.length := by have := cntLe_le ks t; omega
  rw [List.getElem?_eq_getElem hl]
  simp only [Option.map, h1, h2]
  grind
/-- f adds to the times, keeps the places -/
theorem pace_late {f : Kn → Kn} {ks : List Kn} {s : Rat} (h1 : ∀ k, (f k).1 = k.1 + s) (h2 : ∀ k, (f k).2 = k.2) (i : Nat) : paceB (ks.map f) i = paceB ks i := by
  unfold paceB
  rw [List.getElem?_map, List.getElem?_map]
  cases ks[i]? with
  | none => simp
  | some a =>
    cases ks[i + 1]? with
    | none => simp
    | some b =>
      simp only [Option.map, h1, h2]
      congr 1
      grind
theorem cnt_late {f : Kn → Kn} {ks : List Kn} {s : Rat} (h1 : ∀ k, (f k).1 = k.1 + s) (t : Rat) : cntLe (ks.map f) (t + s) = cntLe ks t :=
  cnt_map (by intro k; rw [h1]; constructor <;> intro z <;> grind)
theorem pos_late {f : Kn → Kn} {ks : List Kn} {s : Rat} (h1 : ∀ k, (f k).1 = k.1 + s) (h2 : ∀ k, (f k).2 = k.2) (t : Rat) : posAt (ks.map f) (t + s) = posAt ks t := by
  unfold posAt
  rw [cnt_late h1, pace_late h1 h2, List.getElem?_map]
  cases ks[cntLe ks t - 1]? with
  | none => simp
  | some a =>
    simp only [Option.map, h1, h2]
    grind
/-- at the first knot: its place -/
theorem pos_first {ks : List Kn} {a : Kn} (h : Asc ks) (h0 : ks[0]? = some a) : posAt ks a.1 = a.2 := by
  have c1 : cntLe ks a.1 = 1 := by
    have p : 0 < cntLe ks a.1 := cntLe_pos h0 (Std.le_refl _)
    have n : ¬ 1 < cntLe ks a.1 := by
      intro l
      have hl : 1 < ks.length := by have := cntLe_le ks a.1; omega
      have e := List.getElem?_eq_getElem hl
      have := (cnt_get (t := a.1) h e).mpr l
      have := h.get h0 e (by omega)
      grind
    omega
  unfold posAt
  rw [c1, h0]
  grind

/-! ## ways -/
def absQ (a : Rat) : Rat := if a < 0 then -a else a
theorem absQ_num (a : Rat) : (absQ a).num = (a.num.natAbs : Int) := by
  unfold absQ
  by_cases h : a < 0
  · rw [if_pos h, Rat.neg_num]
    have : a.num < 0 := by
      have := (Rat.lt_iff a 0).mp h
      simpa using this
    omega
  · rw [if_neg h]
    have h2 := Rat.not_lt.mp h
    have := Rat.num_nonneg.mpr h2
    omega
theorem absQ_den (a : Rat) : (absQ a).den = a.den := by
  unfold absQ
  split
  · exact Rat.neg_den ..
  · rfl
theorem absQ_bq {k : Nat} {a : Rat} (h : BQ k a) : BQ k (absQ a) := ⟨by rw [absQ_num]; exact h.1.of_le (by omega), by rw [absQ_den]; exact h.2⟩
def wayK : List Rat → Rat
  | a :: b :: r => absQ (b - a) + wayK (b :: r)
  | _ => 0
theorem way_take {xs : List Rat} : ∀ {i : Nat} {a b : Rat}, xs[i]? = some a → xs[i + 1]? = some b → wayK (xs.take (i + 2)) = wayK (xs.take (i + 1)) + absQ (b - a) := by
  induction xs with
  | nil => intro i a b h; simp at h
  | cons x xs ih =>
    intro i a b h1 h2
    cases i with
    | zero =>
      cases xs with
      | nil => simp at h2
      | cons y ys =>
        simp at h1 h2
        subst h1 h2
        simp [wayK, Rat.add_comm]
    | succ i =>
      cases xs with
      | nil => simp at h1
      | cons y ys =>
        have := ih (i := i) (a := a) (b := b) (by simpa using h1) (by simpa using h2)
        simp only [List.take_succ_cons] at this ⊢
        rw [wayK, wayK, this, Rat.add_assoc]
theorem way_one (xs : List Rat) : wayK (xs.take 1) = 0 := by
  cases xs <;> rfl
def betw (ks : List Kn) (t u : Rat) : List Rat := (ks.filter fun p => decide (t < p.1) && decide (p.1 < u)).map (·.2)
def wayOf (ks : List Kn) (t u : Rat) : List Rat := posAt ks t :: (betw ks t u ++ [posAt ks u])

theorem absQ_mul (a s : Rat) : absQ (a * s) = absQ a * absQ s := by
  unfold absQ
  split <;> split <;> split <;> rename_i h1 h2 h3
  all_goals first
    | grind
    | (exfalso; have := Rat.mul_pos (a := -a) (b := -s) (by grind) (by grind); grind)
    | (have := Rat.mul_nonneg (a := a) (b := s) (by grind) (by grind); grind)
    | (have := Rat.mul_nonneg (a := -a) (b := s) (by grind) (by grind); have := Rat.mul_nonneg (a := a) (b := -s); grind)
    | (by_cases z : a = 0
       · subst z; grind
       · by_cases y : s = 0
         · subst y; grind
         · have := Rat.mul_pos (a := a) (b := -s); have := Rat.mul_pos (a := -a) (b := s); have := Rat.mul_pos (a := a) (b := s); grind)
theorem way_scale (s : Rat) : ∀ xs : List Rat, wayK (xs.map (· * s)) = wayK xs * absQ s
  | [] => by simp [wayK, Rat.zero_mul]
  | [a] => by simp [wayK, Rat.zero_mul]
  | a :: b :: r => by
    have := way_scale s (b :: r)
    simp only [List.map_cons] at this ⊢
    rw [wayK, wayK, this, Rat.add_mul, ← absQ_mul]
    congr 2
    grind
theorem way_move (s : Rat) : ∀ xs : List Rat, wayK (xs.map (· + s)) = wayK xs
  | [] => by simp [wayK]
  | [a] => by simp [wayK]
  | a :: b :: r => by
    have := way_move s (b :: r)
    simp only [List.map_cons] at this ⊢
    rw [wayK, wayK, this]
    congr 2
    grind
theorem betw_same {f : Kn → Kn} {g : Rat → Rat} {ks : List Kn} (h1 : ∀ k, (f k).1 = k.1) (h2 : ∀ k, (f k).2 = g k.2) (t u : Rat) : betw (ks.map f) t u = (betw ks t u).map g := by
  unfold betw
  rw [List.filter_map, List.map_map, List.map_map]
  congr 1
  · funext k; exact h2 k
  · congr 1; funext k; simp [Function.comp, h1]
theorem wayOf_scale {f : Kn → Kn} {ks : List Kn} {s : Rat} (h1 : ∀ k, (f k).1 = k.1) (h2 : ∀ k, (f k).2 = k.2 * s) (t u : Rat) : wayOf (ks.map f) t u = (wayOf ks t u).map (· * s) := by
  unfold wayOf
  rw [pos_scale h1 h2, pos_scale h1 h2, betw_same (g := (· * s)) h1 h2]
  simp
theorem wayOf_move {f : Kn → Kn} {ks : List Kn} {s : Rat} (h1 : ∀ k, (f k).1 = k.1) (h2 : ∀ k, (f k).2 = k.2 + s) (h0 : 0 < ks.length) (t u : Rat) : wayOf (ks.map f) t u = (wayOf ks t u).map (· + s) := by
  unfold wayOf
  rw [pos_move h1 h2 h0, pos_move h1 h2 h0, betw_same (g := (· + s)) h1 h2]
  simp
theorem BD.abs {a : Nat} {p : Rat} (h : BD a p) : BD a (absQ p) := by
  unfold absQ
  split
  · exact h.neg
  · exact h
theorem BD.sub {a b : Nat} {p q : Rat} (hp : BD a p) (hq : BD b q) : BD (a + b) (p - q) := by
  rw [Rat.sub_eq_add_neg]; exact hp.add hq.neg
theorem BD.zero : BD 0 0 := ⟨0, by simp [Rat.div_def, Rat.zero_mul], by simp⟩
theorem wayBD {B : Nat} : ∀ {xs : List Rat}, (∀ x, x ∈ xs → BD B x) → BD (xs.length * (B + B)) (wayK xs)
  | [], _ => BD.zero.mono (by omega)
  | [a], _ => BD.zero.mono (by omega)
  | a :: b :: r, h => by
    have i := wayBD (xs := b :: r) fun x hx => h x (List.mem_cons_of_mem _ hx)
    rw [wayK]
    refine BD.mono (BD.add (BD.sub (h b (by simp)) (h a (by simp))).abs i) ?_
    simp only [List.length_cons]
    rw [Nat.succ_mul (r.length + 1)]
    omega
/-- all partial ways: places of one measure, then one more -/
theorem way_bq {B k m : Nat} {xs : List Rat} {z : Rat} (h : ∀ x, x ∈ xs → BD B x) (hn : xs.length * (B + B) < 65536) (hB : B < 65536) (hz : BQ k z) (hm : 120 + (k + 120 + 1) + 1 ≤ m) (i : Nat) : BQ m (wayK ((xs ++ [z]).take i)) := by
  by_cases hi : i ≤ xs.length
  · rw [List.take_append_of_le_length hi]
    have := wayBD (xs := xs.take i) fun x hx => h x (List.mem_of_mem_take hx)
    refine BQ.mono (BD.bq (BD.mono this (Nat.mul_le_mul_right _ (by rw [List.length_take]; omega : (xs.take i).length ≤ xs.length))) hn) (by omega)
  · rw [List.take_of_length_le (by simp; omega)]
    cases hx : xs.length with
    | zero =>
      have : xs = [] := List.eq_nil_of_length_eq_zero hx
      subst this
      exact (BD.zero.bq (by omega)).mono (by omega)
    | succ n =>
      have e1 : (xs ++ [z])[n]? = some xs[n] := by rw [List.getElem?_append_left (by omega)]; exact List.getElem?_eq_getElem (by omega)
      have e2 : (xs ++ [z])[n + 1]? = some z := by rw [← hx]; simp
      have w := way_take e1 e2
      rw [List.take_of_length_le (by simp; omega), List.take_append_of_le_length (by omega), List.take_of_length_le (by omega)] at w
      rw [w]
      have b1 : BQ 120 (wayK xs) := (wayBD h).bq hn
      have b2 : BQ 120 xs[n] := (h _ (List.getElem_mem _)).bq hB
      have := b1.add (absQ_bq (hz.sub b2))
      exact this.mono (by omega)

/-! ## comprehensions over a range -/
def LcR (lo : Int) (n : Nat) (g : TG) (tt : TT) (te : TE) (vs : List Nat) (σ : L2.St) (H1 : Hp) (Q : VK) : Prop := ∀ D, H1 D = none → ∃ W : Nat → Nat → Hp → Prop, (∃ m, W 0 m (upd H1 D (.lst []))) ∧ ∀ i m H, W i m H →
  ((Itr lo n).stop i H ∧ Q (.ref D) H) ∨ ((Itr lo n).go i H ∧ ∃ Nx : Hp → Prop, (∀ H', Nx H' → ∃ m', m' < m ∧ W (i + 1) m' H') ∧ ∀ x H', (Itr lo n).yld i H x H' → g x (wipe σ vs) H' fun σ2 H2 => wipe σ2 vs = wipe σ vs ∧ tt σ2 H2 fun b H3 =>
    if b = true then te σ2 H3 fun y H4 => ∃ acc, H4 D = some (.lst acc) ∧ acc.length < sizeLine ∧ Nx (upd H4 D (.lst (acc ++ [y]))) else Nx H3)
theorem s_lcR1 {ta : TA} {g : TG} {tt : TT} {te : TE} {vs : List Nat} {σ : L2.St} {H : Hp} {Q : VK} (h : ta σ H fun vs1 H1 => ∃ j : Int, vs1 = [.int j] ∧ rRng j fun n => LcR 0 n g tt te vs σ H1 Q) : tLc (iRng1 ta) g tt te vs σ H Q := h
def rRng2 (i j : Int) (R : Int → Nat → Prop) : Prop := (-(2 ^ 62) ≤ i ∧ i < 2 ^ 62 ∧ -(2 ^ 62) ≤ j ∧ j < 2 ^ 62) ∧ R i (j - i).toNat
theorem s_lcR2 {ta : TA} {g : TG} {tt : TT} {te : TE} {vs : List Nat} {σ : L2.St} {H : Hp} {Q : VK} (h : ta σ H fun vs1 H1 => ∃ i j : Int, vs1 = [.int i, .int j] ∧ rRng2 i j fun lo n => LcR lo n g tt te vs σ H1 Q) : tLc (iRng2 ta) g tt te vs σ H Q := h
theorem s_rng2a {i j : Int} {R : Int → Int → Prop} (h : R i j) : ∃ a b : Int, [V.int i, V.int j] = [V.int a, V.int b] ∧ R a b := ⟨i, j, rfl, h⟩
theorem s_rng2 {i j : Int} {R : Int → Nat → Prop} (h : (-4611686018427387904 ≤ i ∧ i < 4611686018427387904) ∧ -4611686018427387904 ≤ j ∧ j < 4611686018427387904) (k : R i (j - i).toNat) : rRng2 i j R := ⟨⟨h.1.1, h.1.2, h.2.1, h.2.2⟩, k⟩
section
variable {β : Type} {B : Rp β} [Mono B] {K : Fg} {M : Ms} {g : TG} {tt : TT} {te : TE} {vs : List Nat} {σ : L2.St} {H1 : Hp} {Q : VK}
theorem lc_mapR {lo : Int} {n : Nat} (c : Nat → Bool) (f : Nat → β) (w : Own M H1) (hn : n < 100000)
    (hs : ∀ (i : Nat) (M' : Ms) (H2 : Hp) (Z : VK) (N : Hp → Prop), i < n → Tr M H1 M' H2 → Own M' H2 →
      (c i = true → ∀ y H4, Same H2 H4 → B K M' H4 y (f i) → Z y H4) → (c i = false → ∀ H3, Same H2 H3 → N H3) → LcTurn g tt te vs σ H2 (.int (lo + i)) Z N)
    (h : ∀ D vs' H', H1 D = none → Same H1 H' → H' D = some (.lst vs') → Paired (B K M H') vs' (((List.range n).filter c).map f) → rL B K M H' (.ref D) (((List.range n).filter c).map f) → Q (.ref D) H') : LcR lo n g tt te vs σ H1 Q := by
  intro D hD
  refine lc_range (lo := lo) (n := n) (fun i H => ∃ acc, H D = some (.lst acc) ∧ Same H1 H ∧ Paired (B K (mIn M D) H) acc (((List.range i).filter c).map f)) ?_ ?_ ?_
  · exact ⟨[], upd_same, Same.upd_new hD, .nil⟩
  · rintro i H hi ⟨acc, e, s, p⟩
    have la : acc.length < sizeLine := small_line (by
      rw [Prd.len p, List.length_map]
      have h1 := List.length_filter_le c (List.range i)
      rw [List.length_range] at h1
      omega)
    refine hs i (mIn M D) H _ _ hi (Tr.inside s hD) (w.inside s e) (fun hc y H4 s4 hy => ?_) (fun hc H3 s3 => ?_)
    · refine ⟨acc, s4 _ _ e, la, acc ++ [y], upd_same, Same.into (Same.trans s s4) hD, ?_⟩
      rw [List.range_succ, List.filter_append, List.map_append, show [i].filter c = [i] by simp [hc]]
      exact Prd.snoc (Mono.mono Tr.updM hy) (Prd.monoR (fun _ _ z => Mono.mono Tr.updM (Rp.same s4 z)) p)
    · refine ⟨acc, s3 _ _ e, Same.trans s s3, ?_⟩
      rw [List.range_succ, List.filter_append, show [i].filter c = [] by simp [hc], List.append_nil]
      exact Prd.monoR (fun _ _ z => Rp.same s3 z) p
  · rintro H ⟨acc, e, s, p⟩
    have p' := Prd.monoR (fun _ _ z => Mono.mono Tr.outside z) p
    exact h _ _ _ hD s e p' ⟨D, acc, rfl, .inl ⟨w.fresh hD, .inl e⟩, p'⟩
end
/-! ## all, isinstance with two classes, stars, lists copied -/
section
variable {K : Fg} {M : Ms} {H : Hp} {Q : VK} {x : V}
theorem prd_bls {bs : List Bool} : ∀ {vs : List V}, Paired (rBl K M H) vs bs → vs = bs.map V.bl := by
  induction bs with
  | nil => intro vs h; cases h; rfl
  | cons b bs ih => intro vs h; cases h with | cons a t => rw [show _ = _ from a, ih t]; rfl
theorem s_all {bs : List Bool} (h : rL rBl K M H x bs) (q : Q (.bl (bs.all id)) H) : rAll K [x] H Q := by
  obtain ⟨p, vs, rfl, l, r⟩ := h
  have e := prd_bls r
  subst e
  exact ⟨p, bs, rfl, l.sq, q⟩
theorem kitAny_one {t c : Value} {cs : List Value} (h : PySem.W.kitOne K t c = some true) : PySem.W.kitAny K t (c :: cs) = some true := kitAny_cons h (fun z => by cases z) (fun _ => rfl)
theorem s_isiLT {α : Type} {A : Rp α} {as : List α} {p : Addr} (h : rL A K M H x as) (e : H p = some (.tup [.ty "list", .ty "tuple"])) (q : Q (.bl true) H) : rIsiT K [x, .ref p] H Q := by
  obtain ⟨a, vs, rfl, l, r⟩ := h
  exact ⟨_, p, _, _, [.type "list", .type "tuple"], true, rfl, e, .cons (.ty _) (.cons (.ty _) .nil), l.ty, kitAny_one (kit_ty kb_ll), q⟩
theorem s_newTy {a b : String} (h : ∀ p H', Same H H' → H' p = some (.tup [.ty a, .ty b]) → Q (.ref p) H') : NewT [.ty a, .ty b] H Q := ⟨len2, fun p n => h p _ (Same.upd_new n) upd_same⟩
theorem s_star {te : TE} {t : TA} {σ : L2.St} {R : List V → Hp → Prop} (h : te σ H fun x H1 => ∃ p xs, x = V.ref p ∧ (SqT K H1 p xs ∨ SqL K H1 p xs) ∧ t σ H1 fun ys H2 => R (xs ++ ys) H2) : StX.tStar K te t σ H R := h
theorem s_listC {α : Type} {A : Rp α} [Mono A] {as : List α} (h : rL A K M H x as) (w : Own M H) (q : ∀ p vs H', H p = none → Same H H' → H' p = some (.lst vs) → Paired (A K M H') vs as → rL A K M H' (.ref p) as → Q (.ref p) H') : rListC K [x] H Q := by
  obtain ⟨p, vs, rfl, l, r⟩ := h
  refine ⟨p, vs, rfl, .inl l.sq, fun c n => ?_⟩
  have r2 := Prd.monoR (fun _ _ z => Rp.same (Same.upd_new (o := .lst vs) n) z) r
  exact q c vs _ n (Same.upd_new n) upd_same r2 ⟨c, vs, rfl, .inl ⟨w.fresh n, .inl upd_same⟩, r2⟩
end

/-! ## a module's constant fraction -/
def CstFr (K : Fg) (mg : Str → Option Value) (x : Str) (q : Rat) : Prop := ∃ z : Addr, mg x = some (.ref z) ∧ ∀ (M : Ms) (H : Hp), rFr K M H (.ref z) q
theorem cst_fr {K : Fg} {M : Ms} {H : Hp} {z : Addr} {o : Value} {d : Option Addr} {n : Nat} {s : Array (Option Value)} {q : Rat} {t0 t1 : Tok} {i j : Int} (l : K.lookup z = some ⟨o, d, .seq #[.int i t0, .int j t1] n, s⟩) (c : o = .type "tuple") (e1 : q.num = i := by rfl) (e2 : (q.den : Int) = j := by rfl) :
    rFr K M H (.ref z) q := by
  subst e1 e2
  exact ⟨z, rfl, .inr ⟨_, _, _, l, c, rfl, by show 2 ≤ sizeLine; decide, .cons ⟨t0, rfl⟩ (.cons ⟨t1, rfl⟩ .nil)⟩⟩
/-! ## knots -/
abbrev rKn : Rp Kn := rT2 rFr rFr
abbrev rKs : Rp (List Kn) := rL rKn
section
variable {K : Fg} {M : Ms} {H : Hp} {Q : VK} {x : V} {n : String} {b : Bool}
/-- (a, b) = a pair -/
theorem s_gT2 {α β : Type} {A : Rp α} {B : Rp β} {ab : α × β} {t : TGs} {σ : L2.St} {R : L2.St → Hp → Prop} (h : rT2 A B K M H x ab) (q : ∀ y z, A K M H y ab.1 → B K M H z ab.2 → t [y, z] σ H R) : gTup K 2 t x σ H R := by
  obtain ⟨p, y, z, rfl, w, a, b⟩ := h
  exact ⟨p, _, rfl, w.sq, rfl, q y z a b⟩
/-- a new tuple of anything, unpacked at once -/
theorem s_newU {vs : List V} (hl : vs.length ≤ sizeLine) (q : ∀ p H', Same H H' → H' p = some (.tup vs) → Q (.ref p) H') : NewT vs H Q := ⟨hl, fun p n => q p _ (Same.upd_new n) upd_same⟩
theorem s_ixK {ks : List Kn} {i : Int} {j : Nat} {a : Kn} (h : rKs K M H x ks) (hj : ks[j]? = some a) (e : i = (j : Int)) (k : ∀ y, rKn K M H y a → Q y H) : rIx K x (.int i) H Q := by
  subst e
  exact s_ixL h hj (ixN_nat (List.getElem?_eq_some_iff.mp hj).1) k
theorem mono_lt {a c : Nat} {σ : L2.St} {H : Hp} {f : Int → Int → V} {Q Q' : Bool → Hp → Prop} (hq : ∀ b H1, Q b H1 → Q' b H1) (hc : tTest (tOp (rI0 f) (tVar a) (tVar c)) σ H Q) : tTest (tOp (rI0 f) (tVar a) (tVar c)) σ H Q' := by
  obtain ⟨v, e, w, e2, i, j, h1, h2, k, h3, h4⟩ := hc
  exact ⟨v, e, w, e2, i, j, h1, h2, k, h3, hq _ _ h4⟩
end
/-! ## the class of timetables -/
structure TtC (K : Fg) (mg : Str → Option Value) (C : Addr) : Prop where
  cl : Cls K C
  nK : NoAttr K C "_knots"
  nP : NoAttr K C "_plain"
  mgC : mg "Timetable" = some (.ref C)
  ca : PySem.W.findIn K (.ref C) "__class__" = some (some (.builtin "object.__class__"))
  cn : PySem.W.specialIn K (.builtin "object.__class__") "__get__" = some (some (.builtin "getset_descriptor.__get__"))
  ck : PySem.W.takesIn K (.builtin "object.__class__") = some true
  cm : PySem.W.mroIn K C (.type "object") = some true
  kit : PySem.W.kitOne K (.ref C) (.ref C) = some true
  most : ∃ (mc : Value) (t : Tok), ClX.CRead K C mc ∧ ClX.CVal K C mc "MOST" (.int 40) (.int 40 t)
theorem kp_ne : ¬ (("_knots" : Str) = "_plain") := by decide +kernel
def fTt (lk lp : Addr) : List (Str × V) := putF "_plain" (.ref lp) (putF "_knots" (.ref lk) [])
theorem fTt_knots (lk lp : Addr) : (fTt lk lp).lookup ("_knots" : Str) = some (.ref lk) := by
  unfold fTt
  rw [lookup_putF, if_neg kp_ne, lookup_putF, if_pos rfl]
theorem fTt_plain (lk lp : Addr) : (fTt lk lp).lookup ("_plain" : Str) = some (.ref lp) := by
  unfold fTt
  rw [lookup_putF, if_pos rfl]
theorem fTt_no (lk lp : Addr) {m : Str} (h1 : ¬ m = "_plain") (h2 : ¬ m = "_knots") : (fTt lk lp).lookup m = none := by
  unfold fTt
  rw [lookup_putF, if_neg h1, lookup_putF, if_neg h2]
  rfl
/-- a Timetable -/
def rTt (C : Addr) : Rp (List Kn) := fun K M H v ks => ∃ p dx lk lp, v = .ref p ∧ ¬ M p ∧ H p = some (.ins C dx (fTt lk lp)) ∧ rKs K M H (.ref lk) ks ∧ rKs K M H (.ref lp) (plainK ks)
instance (C : Addr) : Mono (rTt C) := ⟨fun t ⟨p, dx, lk, lp, e, n, h, a, b⟩ => ⟨p, dx, lk, lp, e, (t _ _ h n).2, (t _ _ h n).1, Mono.mono t a, Mono.mono t b⟩⟩
/-- a method by its promise; the class's maker by its __init__'s -/
structure CalM (P : Program) (w : World) (K : Fg) (mg : Str → Option Value) (base : Heap) (CX : CXT) (k : Nat) (C : Addr) (m : Str) (ps : List Str) (sp : Sp) : Prop where
  ex : ∃ (f : Addr) (fd : FuncData), FnOk P w K mg base CX k f fd ps sp ∧ Meth K C m f ∧ Binds K fd ps []
structure CalI (P : Program) (w : World) (K : Fg) (mg : Str → Option Value) (base : Heap) (CX : CXT) (k : Nat) (C : Addr) (ps : List Str) (sp : Sp) : Prop where
  ex : ∃ (f : Addr) (fd : FuncData), FnOk P w K mg base CX k f fd ps sp ∧ L2.Mk K C f ∧ Binds K fd ps []
section
variable {X : Cx} {CX : CXT} {k : Nat} {C : Addr} {m x : Str} {ps : List Str} {sp : Sp} {E : XK} {p pos apos : Pos} {o e : Expr} {es : List Expr} {ta : TE} {t : TA}
theorem pe_calm {pl : Sem Bool} (he : PE X o ta) (c : Cls X.K C) (G : CalM X.prog X.w X.K X.mg X.base CX k C m ps sp) (hr : Room k X.A) (hx : Passes CX X E) (ha : PA X (e :: es) t)
    (hst : starEach (e :: es) X.env = (false, eval e X.env) :: starEach es X.env := by rfl) (hpl : (backTo pos (starEach es X.env)).any (·.1) = false := by rfl)
    (ht : eval (.Call (.Attribute o m apos) (e :: es) [] pos) X.env = (do
      let ov ← eval o X.env
      standAt apos.atName
      let (f, first) ← holding [ov] (getMethod ov m pl)
      callWith pos f first (backTo pos (starEach (e :: es) X.env)) (backToKw pos (keywordEach [] X.env))) := by rfl) :
    PE X (.Call (.Attribute o m apos) (e :: es) [] pos) (tMeth C m sp [] E ta t) := by
  obtain ⟨f, fd, F, hm, hb⟩ := G.ex
  exact pe_meth he c hm F hr hb .nil hx ha hst hpl ht
theorem pe_calm0 {pl : Sem Bool} (he : PE X o ta) (c : Cls X.K C) (G : CalM X.prog X.w X.K X.mg X.base CX k C m ps sp) (hr : Room k X.A) (hx : Passes CX X E)
    (ht : eval (.Call (.Attribute o m apos) [] [] pos) X.env = (do
      let ov ← eval o X.env
      standAt apos.atName
      let (f, first) ← holding [ov] (getMethod ov m pl)
      callWith pos f first (backTo pos (starEach [] X.env)) (backToKw pos (keywordEach [] X.env))) := by rfl) :
    PE X (.Call (.Attribute o m apos) [] [] pos) (tMeth C m sp [] E ta tNil) := by
  obtain ⟨f, fd, F, hm, hb⟩ := G.ex
  exact pe_meth0 he c hm F hr hb .nil hx ht
theorem pe_calI (G : CalI X.prog X.w X.K X.mg X.base CX k C ps sp) (hr : Room (k + 1) X.A) (hg : Gl X x) (hm : X.mg x = some (.ref C)) (hx : Passes CX X E)
    (ha : PA X (e :: es) t) (hdb : (x == ("__debug__" : Str)) = false := by decide) (he : starEach (e :: es) X.env = (false, eval e X.env) :: starEach es X.env := by rfl) (hpl : (backTo pos (starEach es X.env)).any (·.1) = false := by rfl) :
    PE X (.Call (.Name x p) (e :: es) [] pos) (tMake C sp [] E t) := by
  obtain ⟨f, fd, F, M, hb⟩ := G.ex
  exact pe_make M F hr hg hm hb .nil hx ha hdb he hpl
end
/-! ## steps of objects -/
def rMeth (C : Addr) (m : Str) (sp : Sp) (E : XK) (t : TA) (σ : L2.St) (x : V) (H : Hp) (Q : VK) : Prop := ∃ a dx fs, x = .ref a ∧ H a = some (.ins C dx fs) ∧ fs.lookup m = none ∧ t σ H fun vs H2 => sp (x :: (vs ++ [])) H2 Q E
def rFldR (K : Fg) (f : Str) (x : V) (H : Hp) (Q : VK) : Prop := ∃ a C dx fs v, x = .ref a ∧ H a = some (.ins C dx fs) ∧ Cls K C ∧ NoAttr K C f ∧ fs.lookup f = some v ∧ Q v H
def rFldW (K : Fg) (f : Str) (y x : V) (H : Hp) (R : Hp → Prop) : Prop := ∃ a C dx fs, x = .ref a ∧ H a = some (.ins C dx fs) ∧ Cls K C ∧ NoAttr K C f ∧ fs.length < 1000 ∧ R (upd H a (.ins C dx (putF f y fs)))
section
variable {K : Fg} {M : Ms} {H : Hp} {Q : VK} {x : V} {C : Addr} {σ : L2.St} {D : Ends} {ta tv : TE} {t : TA} {m f : Str} {sp : Sp} {E : XK} {ks : List Kn} {mg : Str → Option Value}
theorem s_meth (h : ta σ H fun x H1 => rMeth C m sp E t σ x H1 Q) : tMeth C m sp [] E ta t σ H Q := h
theorem s_fldR (h : ta σ H fun x H1 => rFldR K f x H1 Q) : tFld K ta f σ H Q := h
theorem s_fldW (h : tv σ H fun y H1 => ta σ H1 fun x H2 => rFldW K f y x H2 (D.nx σ)) : sFld K ta tv f D σ H := h
theorem s_methT (h : rTt C K M H x ks) (hm : ¬ m = "_plain" ∧ ¬ m = "_knots") (k : t σ H fun vs H2 => sp (x :: (vs ++ [])) H2 Q E) : rMeth C m sp E t σ x H Q := by
  obtain ⟨p, dx, lk, lp, rfl, n, e, _⟩ := h
  exact ⟨p, dx, _, rfl, e, fTt_no _ _ hm.1 hm.2, k⟩
theorem s_fldK (T : TtC K mg C) (h : rTt C K M H x ks) (k : ∀ y, rKs K M H y ks → Q y H) : rFldR K "_knots" x H Q := by
  obtain ⟨p, dx, lk, lp, rfl, n, e, a, b⟩ := h
  exact ⟨p, C, dx, _, _, rfl, e, T.cl, T.nK, fTt_knots _ _, k _ a⟩
theorem s_fldP (T : TtC K mg C) (h : rTt C K M H x ks) (k : ∀ y, rKs K M H y (plainK ks) → Q y H) : rFldR K "_plain" x H Q := by
  obtain ⟨p, dx, lk, lp, rfl, n, e, a, b⟩ := h
  exact ⟨p, C, dx, _, _, rfl, e, T.cl, T.nP, fTt_plain _ _, k _ b⟩
/-- Timetable.MOST -/
theorem s_most (T : TtC K mg C) (k : Q (.int 40) H) : ClX.tCVal K (tC (.ref C)) "MOST" σ H Q := by
  obtain ⟨mc, t, r, c⟩ := T.most
  exact ⟨C, mc, .int 40, _, rfl, r, c, k⟩
/-- Timetable(..) -/
theorem s_make (h : t σ H fun vs H1 => ∀ x dx, H1 x = none → H1 dx = none → dx ≠ x → sp (.ref x :: (vs ++ [])) (upd (upd H1 dx (.own x)) x (.ins C dx [])) (fun v H2 => v = .non ∧ Q (.ref x) H2) E) : tMake C sp [] E t σ H Q := h
end
/-- __init__'s promise -/
def sp_init (C : Addr) (K : Fg) : Sp := fun vs H Q _ => ∃ (M : Ms) (p dx : Addr) (v : V) (ks : List Kn) (j : Nat), vs = [.ref p, v] ∧ H p = some (.ins C dx []) ∧ M p ∧ rKs K M H v ks ∧ 0 < ks.length ∧ ks.length ≤ 40 ∧ Asc ks ∧ KB j ks ∧ j < 2000 ∧ Own M H ∧
  ∀ lk lp H', (∀ b o, H b = some o → b ≠ p → H' b = some o) → H' p = some (.ins C dx (fTt lk lp)) → rKs K M H' (.ref lk) ks → rKs K M H' (.ref lp) (plainK ks) → Q .non H'
theorem c_make {K : Fg} {M : Ms} {H : Hp} {Q : VK} {E : XK} {C : Addr} {v : V} {ks : List Kn} {j : Nat} (h : rKs K M H v ks) (h0 : 0 < ks.length) (hn : ks.length ≤ 40) (ha : Asc ks) (hb : KB j ks) (hj : j < 2000) (ow : Own M H) (q : ∀ x H', Same H H' → rTt C K M H' x ks → Q x H') :
    ∀ x dx, H x = none → H dx = none → dx ≠ x → sp_init C K (.ref x :: ([v] ++ [])) (upd (upd H dx (.own x)) x (.ins C dx [])) (fun v H2 => v = .non ∧ Q (.ref x) H2) E := by
  intro x dx hx hd ne
  have s1 : Same H (upd (upd H dx (.own x)) x (.ins C dx [])) := fun b o e => by rw [upd_ne (ne_of_none e hx), upd_ne (ne_of_none e hd)]; exact e
  refine ⟨mIn M x, x, dx, v, ks, j, rfl, upd_same, .inr rfl, Mono.mono (Tr.inside s1 hx) h, h0, hn, ha, hb, hj, ow.inside s1 upd_same, fun lk lp H' kp e a b => ⟨rfl, ?_⟩⟩
  refine q _ _ (fun b o z => kp b o (s1 b o z) (ne_of_none z hx)) ⟨x, dx, lk, lp, rfl, ow.fresh hx, e, Mono.mono Tr.outside a, Mono.mono Tr.outside b⟩
/-! ## rules that name the written part themselves (for comprehensions' blocks) -/
section
variable {X : Cx} {e o : Expr} {es : List Expr} {f : Str} {pos p p2 : Pos} {ta te : TE} {t : TGs} {k n : Nat} {lo hi : Option Expr} {tl th : TO} {tr : TA}
theorem ixSeq (K : Fg) (h : X.K = K := by rfl) : IxR X (rIx K) := by subst h; exact ix_seq
theorem opAddK (K : Fg) (h : X.K = K := by rfl) : OpR X (binaryOp .Add) (rAddA K) := by subst h; exact opAdd
theorem opEqK (K : Fg) (hu : X.A.units + 64 < cLine) (h : X.K = K := by rfl) : OpR X (compareOp .Eq) (rEqA K) := by subst h; exact opEq hu
theorem opNeK (K : Fg) (hu : X.A.units + 64 < cLine) (h : X.K = K := by rfl) : OpR X (compareOp .NotEq) (rNeA K) := by subst h; exact opNe hu
theorem callLenK (K : Fg) (h : X.K = K := by rfl) : CallR X (.builtin "len") (rLen K) := by subst h; exact callLen
theorem callIsiK (K : Fg) (h : X.K = K := by rfl) : CallR X (.builtin "isinstance") (rIsi K) := by subst h; exact call_isi
theorem callIsiTK (K : Fg) (h : X.K = K := by rfl) : CallR X (.builtin "isinstance") (rIsiT K) := by subst h; exact call_isiT
theorem callListK (K : Fg) (h : X.K = K := by rfl) : CallR X (.type "list") (rListC K) := by subst h; exact callList
theorem callAllK (K : Fg) (hc : X.calm = true) (h : X.K = K := by rfl) : CallR X (.builtin "all") (rAll K) := by subst h; exact cr_all hc
theorem pgTupK (K : Fg) (hc : X.calm = true) (g : PGs X es t) (hn : (assignEach es X.env).length = n := by rfl) (hst : (assignEach es X.env).findIdx? (·.1) = none := by rfl) (h : X.K = K := by rfl) : PG X (.Tuple es k pos) (gTup K n t) := by subst h; exact pg_tup hc g hn hst
theorem peFldK (K : Fg) (he : PE X e ta) (hb : attributeBase e f X.env (eval e X.env) = eval e X.env := by rfl) (h : X.K = K := by rfl) : PE X (.Attribute e f pos) (tFld K ta f) := by subst h; exact pe_fld he hb
theorem piListK {tg : Expr} (K : Fg) (he : PE X e te) (h : X.K = K := by rfl) : PI X tg e (iList K te) := by subst h; exact pi_list he
theorem slListK (K : Fg) (h : X.K = K := by rfl) : SlR X (rSlL K) := by subst h; exact sl_list
theorem paStarK (K : Fg) (he : PE X e te) (hr : PA X es tr) (hs : starEach (.Starred e p :: es) X.env = (true, eval e X.env) :: starEach es X.env := by rfl) (h : X.K = K := by rfl) : PA X (.Starred e p :: es) (StX.tStar K te tr) := by subst h; exact StX.pa_star he hr hs
end
/-! ## for over range(a, b) -/
def ForL (lo : Int) (n : Nat) (g : TG) (tb : TS) (D : Ends) (σ : L2.St) (H1 : Hp) : Prop := ∃ W : Nat → Nat → L2.St → Hp → Prop, (∃ m, W 0 m σ H1) ∧ ∀ i m σ H, W i m σ H →
  ((Itr lo n).stop i H ∧ D.nx σ H) ∨ ((Itr lo n).go i H ∧ ∃ N : L2.St → Hp → Prop, (∀ σ' H', N σ' H' → ∃ m', m' < m ∧ W (i + 1) m' σ' H') ∧ ∀ x H', (Itr lo n).yld i H x H' → g x σ H' fun σ2 H2 => tb { D with nx := N, ct := N, bk := D.nx } σ2 H2)
theorem s_forR2 {ta : TA} {g : TG} {tb : TS} {D : Ends} {σ : L2.St} {H : Hp} (h : ta σ H fun vs H1 => ∃ i j : Int, vs = [.int i, .int j] ∧ rRng2 i j fun lo n => ForL lo n g tb D σ H1) : tFor (iRng2 ta) g tb D σ H := h
theorem forL_by {lo : Int} {n : Nat} {g : TG} {tb : TS} {D : Ends} {σ : L2.St} {H : Hp} (Pv : Nat → L2.St → Hp → Prop) (h0 : Pv 0 σ H)
    (hs : ∀ (i : Nat) σ H (N : L2.St → Hp → Prop), i < n → Pv i σ H → (∀ σ' H', Pv (i + 1) σ' H' → N σ' H') → g (.int (lo + i)) σ H fun σ2 H2 => tb { D with nx := N, ct := N, bk := D.nx } σ2 H2) (hd : ∀ σ H, Pv n σ H → D.nx σ H) : ForL lo n g tb D σ H :=
  for_range (lo := lo) (n := n) Pv h0 (fun i σ H hi p => hs i σ H _ hi p fun _ _ z => z) hd
/-! ## to stop ahead of an if -/
def Mark (p : Prop) : Prop := p
theorem mark_if {c : TT} {t u v : TS} {D : Ends} {σ : L2.St} {H : Hp} (h : Mark (tSeq (tIfS c t u) v D σ H)) : tSeq (tIfS c t u) v D σ H := h
theorem mark_cut {t u : TS} {D : Ends} {σ : L2.St} {H : Hp} (I : L2.St → Hp → Prop) (h2 : ∀ σ' H', I σ' H' → u D σ' H') (h1 : ∀ N : L2.St → Hp → Prop, (∀ σ' H', I σ' H' → N σ' H') → t { D with nx := N } σ H) : Mark (tSeq t u D σ H) := s_cut I h2 h1
theorem ixN_last {n : Nat} (h : 0 < n) : ixN n (-1) = some (n - 1) := by
  unfold ixN
  rw [if_neg (by omega), if_pos (by omega)]
  congr 1
  omega

/-! ## == of two objects of an own class, by its __eq__ -/
def rEqT (C : Addr) (sp : Sp) : R2 := fun x y H Q => ∃ a b dx dy fs gs, x = .ref a ∧ y = .ref b ∧ H a = some (.ins C dx fs) ∧ H b = some (.ins C dy gs) ∧ sp [.ref a, .ref b] H (fun v H' => ∃ r, v = .bl r ∧ Q (.bl r) H') E0
structure CalE (P : Program) (w : World) (K : Fg) (mg : Str → Option Value) (base : Heap) (k : Nat) (C : Addr) (ps : List Str) (sp : Sp) : Prop where
  ex : ∃ (f : Addr) (fd : FuncData), FnOk P w K mg base CX0 k f fd ps sp ∧ PySem.W.findIn K (.ref C) "__eq__" = some (some (.ref f)) ∧ PySem.W.isFn K (.ref f) = true ∧ Binds K fd ps []
theorem op_eqT {X : Cx} {k : Nat} {C : Addr} {ps : List Str} {sp : Sp} (G : CalE X.prog X.w X.K X.mg X.base k C ps sp) (hr : Room k X.A) : OpR X (compareOp .Eq) (rEqT C sp) := by
  obtain ⟨f, fd, F, hs, hf, hb⟩ := G.ex
  intro pins s σ H x y u v Q I rx ry d
  obtain ⟨a, b, dx, dy, fs, gs, rfl, rfl, ha, hb', hsp⟩ := d
  cases rx
  cases ry
  obtain ⟨mA, J, _⟩ := ins_get I.hok ha
  obtain ⟨mB, J', _⟩ := ins_get I.hok hb'
  obtain ⟨od, J, _⟩ := J.look
  obtain ⟨od', J', _⟩ := J'.look
  obtain ⟨m, hF⟩ := I.fr
  show wpAny _ _ (richCompare .Eq (.ref a) (.ref b)) _ _ _
  refine PySem.W.cmp_K (op := .Eq) (tb := .ref C) hr.units0 hF I.ok.mod.kin J J'.type (by simp [PySem.W.notFirst]) hs hf ?_
  have hl := F.len _ _ _ _ hsp
  have r2 : Vals [V.ref a, V.ref b] [Value.ref a, Value.ref b] := .cons rfl (.cons rfl .nil)
  refine wpAny_call (codeAny_mono (F.run X.A X.stack s H ⟨[.ref a, .ref b], []⟩ [.ref a, .ref b] [.ref a, .ref b] _ E0 hr I.env0 (by
    have := hb s [.ref a, .ref b] I.kIn (by simpa using hl)
    simpa using this) r2 hsp) fun r s' hq => ?_)
  cases r with
  | error e => exact hq.elim
  | ok fl =>
    cases fl with
    | ret w =>
      obtain ⟨z, H', I', rz, r, ez, ex⟩ := I.after hq
      subst ez
      cases rz
      exact ⟨.bl r, H', I', rfl, ex⟩
    | next => exact False.elim hq
    | brk => exact False.elim hq
    | cont => exact False.elim hq
/-! ## != of two such objects, where the class has no __ne__ -/
theorem ns_some_of {K : Fg} {h : Heap} {N : Addr} {m : Str → Option Value} {n : Str} {v : Value} (X : K.In h) (G : h.Ns N m) (e : PySem.W.nsIn K N n = some (some v)) : m n = some v := by
  obtain ⟨o, es, ep, ho, hd, _, hf⟩ := G
  unfold PySem.W.nsIn at e
  split at e
  · rename_i c d es' n' sl q
    have := X _ _ q
    rw [ho] at this
    cases this
    cases hd
    split at e
    · rename_i w he
      rw [← hf]
      unfold nsFind findBy
      rw [← Array.find?_toList, he]
      cases e
      rfl
    · rename_i he
      split at e <;> cases e
  · cases e
structure NeC (K : Fg) (C f : Addr) : Prop where
  ex : ∃ (nm q : Str) (N : Addr) (bs : List Value) (hdct : Bool) (sn : List Str) (sub : List Value) (ab : Bool) (col : Option Bool) (dd : Option Addr) (k0 k1 k2 k3 k5 : Option Value) (newId : String) (of : Obj) (y : Option Value),
    K.lookup C = some (excClassObj nm q C N bs [.type "object"] hdct sn sub ab col dd k0 k1 k2 k3 k5 newId) ∧ PySem.W.nsOkIn K N = true ∧ PySem.W.nsIn K N "__eq__" = some (some (.ref f)) ∧ PySem.W.nsIn K N "__ne__" = some none ∧
    K.lookup f = some of ∧ of.cls = .type "function" ∧ typeLookup (.type "object") "__eq__" = pure y
theorem NeC.at {K : Fg} {C f : Addr} {h : Heap} {x : Addr} {o : Obj} (n : NeC K C f) (X : K.In h) (hx : h.get? x = some o) (hc : o.cls = .ref C) : h.OwnEqNoNe x C f "object" [.type "object"] := by
  obtain ⟨nm, q, N, bs, hdct, sn, sub, ab, col, dd, k0, k1, k2, k3, k5, newId, of, y, h1, h2, h3, h4, h5, h6, h7⟩ := n.ex
  have G := Heap.Ns.of_isNs (PySem.W.isNs_of_in X h2)
  exact ⟨o, of, nm, q, N, bs, hdct, sn, sub, ab, col, dd, k0, k1, k2, k3, k5, newId, _, y, hx, hc, X _ _ h1, G, ns_some_of X G h3, X _ _ h5, h6, F.cmp_object.mro, h7, PySem.W.ns_none_of X G h4⟩
def rNeT (C : Addr) (sp : Sp) : R2 := fun x y H Q => ∃ a b dx dy fs gs, x = .ref a ∧ y = .ref b ∧ H a = some (.ins C dx fs) ∧ H b = some (.ins C dy gs) ∧ sp [.ref a, .ref b] H (fun v H' => ∃ r, v = .bl r ∧ Q (.bl (!r)) H') E0
structure CalN (P : Program) (w : World) (K : Fg) (mg : Str → Option Value) (base : Heap) (k : Nat) (C : Addr) (ps : List Str) (sp : Sp) : Prop where
  ex : ∃ (f : Addr) (fd : FuncData), FnOk P w K mg base CX0 k f fd ps sp ∧ NeC K C f ∧ Binds K fd ps []
theorem op_neT {X : Cx} {k : Nat} {C : Addr} {ps : List Str} {sp : Sp} (G : CalN X.prog X.w X.K X.mg X.base k C ps sp) (hr : Room (k + 1) X.A) : OpR X (compareOp .NotEq) (rNeT C sp) := by
  obtain ⟨f, fd, F, hn, hb⟩ := G.ex
  intro pins s σ H x y u v Q I rx ry d
  obtain ⟨a, b, dx, dy, fs, gs, rfl, rfl, ha, hb', hsp⟩ := d
  cases rx
  cases ry
  obtain ⟨mA, J, _⟩ := ins_get I.hok ha
  obtain ⟨mB, J', _⟩ := ins_get I.hok hb'
  obtain ⟨od, J, _⟩ := J.look
  obtain ⟨od', J', _⟩ := J'.look
  have hl := F.len _ _ _ _ hsp
  have r2 : Vals [V.ref a, V.ref b] [Value.ref a, Value.ref b] := .cons rfl (.cons rfl .nil)
  have hu : X.A.units + 1 < cLine := hu_of hr
  have X1 : X.K.In s.heap := I.kIn
  have main : wpAny (model X.prog X.w) X.A.in1 (call (.ref f) [.ref a, .ref b]) (fun v s' => ∃ c, v = .bool c ∧ EP X pins σ Q (.bool (!c)) s') X.xe s := by
    refine wpAny_call (codeAny_mono (F.run X.A.in1 X.stack s H ⟨[.ref a, .ref b], []⟩ [.ref a, .ref b] [.ref a, .ref b] _ E0 hr.in1 I.env0.in1 (by
      have := hb s [.ref a, .ref b] I.kIn (by simpa using hl)
      simpa using this) r2 hsp) fun r s' hq => ?_)
    cases r with
    | error e => exact hq.elim
    | ok fl =>
      cases fl with
      | ret w =>
        obtain ⟨z, H', I', rz, r, ez, ex⟩ := I.after hq
        subst ez
        cases rz
        exact ⟨r, rfl, .bl (!r), H', I', rfl, ex⟩
      | next => exact False.elim hq
      | brk => exact False.elim hq
      | cont => exact False.elim hq
  obtain ⟨hp, g, dr, tk, os⟩ := s
  exact compareOp_ne_ownEq PySem.F.cmp_object (hn.at X1 J.1 J.cls) J'.1 J'.cls hu main
/-! ## == and != of Timetables -/
def sp_teq (C : Addr) (K : Fg) : Sp := fun vs H Q _ => ∃ (M : Ms) (x y : V) (ks ls : List Kn), vs = [x, y] ∧ rTt C K M H x ks ∧ rTt C K M H y ls ∧ Own M H ∧ ∀ H', Same H H' → Q (.bl (decide (plainK ks = plainK ls))) H'
def rEqB (K : Fg) (C : Addr) : R2 := fun x y H Q => rEqA K x y H Q ∨ rEqT C (sp_teq C K) x y H Q
def rNeB (K : Fg) (C : Addr) : R2 := fun x y H Q => rNeA K x y H Q ∨ rNeT C (sp_teq C K) x y H Q
theorem opEqB {X : Cx} {k : Nat} {C : Addr} {ps : List Str} (K : Fg) (G : CalE X.prog X.w X.K X.mg X.base k C ps (sp_teq C K)) (hr : Room k X.A) (hu : X.A.units + 64 < cLine) (h : X.K = K := by rfl) : OpR X (compareOp .Eq) (rEqB K C) := (opEqK K hu h).or (op_eqT G hr)
theorem opNeB {X : Cx} {k : Nat} {C : Addr} {ps : List Str} (K : Fg) (G : CalN X.prog X.w X.K X.mg X.base k C ps (sp_teq C K)) (hr : Room (k + 1) X.A) (hu : X.A.units + 64 < cLine) (h : X.K = K := by rfl) : OpR X (compareOp .NotEq) (rNeB K C) := (opNeK K hu h).or (op_neT G hr)
section
variable {K : Fg} {M : Ms} {H : Hp} {Q : VK} {x y : V} {C : Addr} {ks ls : List Kn} {mg : Str → Option Value}
theorem s_eqBl (h : rEqA K x y H Q) : rEqB K C x y H Q := .inl h
theorem s_neBl (h : rNeA K x y H Q) : rNeB K C x y H Q := .inl h
theorem s_eqBr (h1 : rTt C K M H x ks) (h2 : rTt C K M H y ls) (ow : Own M H) (q : ∀ H', Same H H' → Q (.bl (decide (plainK ks = plainK ls))) H') : rEqB K C x y H Q := by
  obtain ⟨p, dx, lk, lp, rfl, n, e, a⟩ := id h1
  obtain ⟨p', dx', lk', lp', rfl, n', e', a'⟩ := id h2
  exact .inr ⟨p, p', dx, dx', _, _, rfl, rfl, e, e', M, _, _, ks, ls, rfl, h1, h2, ow, fun H' s => ⟨_, rfl, q H' s⟩⟩
theorem s_neBr (h1 : rTt C K M H x ks) (h2 : rTt C K M H y ls) (ow : Own M H) (q : ∀ H', Same H H' → Q (.bl (!decide (plainK ks = plainK ls))) H') : rNeB K C x y H Q := by
  obtain ⟨p, dx, lk, lp, rfl, n, e, a⟩ := id h1
  obtain ⟨p', dx', lk', lp', rfl, n', e', a'⟩ := id h2
  exact .inr ⟨p, p', dx, dx', _, _, rfl, rfl, e, e', M, _, _, ks, ls, rfl, h1, h2, ow, fun H' s => ⟨_, rfl, q H' s⟩⟩
theorem s_isiTt (T : TtC K mg C) (h : rTt C K M H x ks) (q : Q (.bl true) H) : rIsi K [x, .ref C] H Q := by
  obtain ⟨p, dx, lk, lp, rfl, n, e, a⟩ := id h
  exact ⟨_, _, _, _, true, rfl, .own C, .base (.ins e T.cl T.ca T.cn T.ck T.cm), T.kit, q⟩
theorem s_eqKs {a b : List Kn} {N : Ms} (ha : rKs K M H x a) (hb : rKs K N H y b) (h : Q (.bl (decide (a = b))) H) : rEqA K x y H Q := s_eqD ha hb h (by decide)
theorem s_neKs {a b : List Kn} {N : Ms} (ha : rKs K M H x a) (hb : rKs K N H y b) (h : Q (.bl (!decide (a = b))) H) : rNeA K x y H Q := s_neD ha hb h (by decide)
end

/-! ## slices -/
def cutA {α : Type} (xs : List α) (lo hi : Option Int) : List α := (xs.drop (HT.sIx xs.length 0 lo)).take (HT.sIx xs.length xs.length hi - HT.sIx xs.length 0 lo)
theorem Prd.drop {α β : Type} {R : α → β → Prop} : ∀ {n : Nat} {xs : List α} {ys : List β}, Paired R xs ys → Paired R (xs.drop n) (ys.drop n)
  | 0, _, _, h => h
  | n + 1, _, _, .nil => .nil
  | n + 1, _, _, .cons _ t => Prd.drop (n := n) t
theorem Prd.take {α β : Type} {R : α → β → Prop} : ∀ {n : Nat} {xs : List α} {ys : List β}, Paired R xs ys → Paired R (xs.take n) (ys.take n)
  | 0, _, _, h => by simpa using Paired.nil
  | n + 1, _, _, .nil => .nil
  | n + 1, _, _, .cons r t => .cons r (Prd.take (n := n) t)
theorem Prd.cut {α : Type} {R : V → α → Prop} {xs : List V} {ys : List α} {lo hi : Option Int} (h : Paired R xs ys) : Paired R (cutV xs lo hi) (cutA ys lo hi) := by
  unfold cutV cutA
  rw [Prd.len h]
  exact Prd.take (Prd.drop h)
theorem cutA_tail {α : Type} (xs : List α) : cutA xs (some 1) none = xs.drop 1 := by
  unfold cutA
  have e : HT.sIx xs.length 0 (some 1) = min 1 xs.length := HT.sIx_nat _ _ 1
  rw [e, HT.sIx_none]
  cases xs with
  | nil => rfl
  | cons a l =>
    rw [show min 1 (a :: l).length = 1 by simp]
    rw [List.take_of_length_le]
    simp
section
variable {α : Type} {A : Rp α} {K : Fg} {M : Ms} {H : Hp} {x y : V} {as : List α} {Q : VK} {σ : L2.St} {r : V → Option Int → Option Int → Hp → VK → Prop} {te : TE} {tl th : TO} {q : Option Int → Hp → Prop} {i : Int}
theorem s_slice (h : te σ H fun x H1 => tl σ H1 fun l H2 => th σ H2 fun u H3 => r x l u H3 Q) : tSl r te tl th σ H Q := h
theorem s_partN (h : q none H) : tNoPart σ H q := h
theorem s_part (h : te σ H fun x H1 => ∃ i, x = .int i ∧ q (some i) H1) : tPart te σ H q := h
theorem s_partI {R : Int → Prop} (h : R i) : ∃ j, V.int i = V.int j ∧ R j := ⟨i, rfl, h⟩
theorem s_cutL [Mono A] {lo hi : Option Int} (h : rL A K M H x as) (w : Own M H) (k : ∀ v H', Same H H' → rL A K M H' v (cutA as lo hi) → Q v H') : rSlL K x lo hi H Q := by
  obtain ⟨a, vs, rfl, z, p⟩ := h
  exact ⟨a, vs, rfl, z.sq, fun l n => k _ _ (Same.upd_new n) ⟨l, _, rfl, .inl ⟨w.fresh n, .inl upd_same⟩, Prd.cut (Prd.monoR (fun _ _ z => Rp.same (Same.upd_new n) z) p)⟩⟩
theorem s_cutL2 {lo hi : Option Int} (h : rL A K M H x as) (w : Own M H) (i : Mono A) (k : ∀ v H', Same H H' → rL A K M H' v (cutA as lo hi) → Q v H') : rSlL K x lo hi H Q := s_cutL h w k
end
/-! ## for over zip of two lists -/
theorem piZipK {X : Cx} {e e2 : Expr} {ta : TA} {p pos tpos : Pos} {elts : List Expr} {kk : Nat} (K : Fg) (hg : Gl X "zip") (hm : X.mg "zip" = none) (ha : PA X [e, e2] ta)
    (hs : starEach [e, e2] X.env = (false, eval e X.env) :: starEach [e2] X.env := by rfl) (hpl : (backTo pos (starEach [e2] X.env)).any (·.1) = false := by rfl) (h : X.K = K := by rfl) :
    PI X (.Tuple elts kk tpos) (.Call (.Name "zip" p) [e, e2] [] pos) (iZip K ta) := by subst h; exact pi_zip hg hm ha hs hpl
def ForZ (K : Fg) (a b : Addr) (g : TG) (tb : TS) (D : Ends) (σ : L2.St) (H1 : Hp) : Prop := ∃ W : Nat → Nat → L2.St → Hp → Prop, (∃ m, W 0 m σ H1) ∧ ∀ i m σ H, W i m σ H →
  ((Itz K a b).stop i H ∧ D.nx σ H) ∨ ((Itz K a b).go i H ∧ ∃ N : L2.St → Hp → Prop, (∀ σ' H', N σ' H' → ∃ m', m' < m ∧ W (i + 1) m' σ' H') ∧ ∀ x H', (Itz K a b).yld i H x H' → g x σ H' fun σ2 H2 => tb { D with nx := N, ct := N, bk := D.nx } σ2 H2)
def rZip (K : Fg) (vs : List V) (H : Hp) (R : Addr → Addr → Prop) : Prop := ∃ a b xs ys, vs = [.ref a, .ref b] ∧ SqL K H a xs ∧ SqL K H b ys ∧ R a b
theorem s_forZ {K : Fg} {ta : TA} {g : TG} {tb : TS} {D : Ends} {σ : L2.St} {H : Hp} (h : ta σ H fun vs H1 => rZip K vs H1 fun a b => ForZ K a b g tb D σ H1) : tFor (iZip K ta) g tb D σ H := h
theorem forZ_by {α β : Type} {A : Rp α} {B : Rp β} [Mono A] [Mono B] {K : Fg} {M : Ms} {x y : V} {as : List α} {bs : List β} {g : TG} {tb : TS} {D : Ends} {σ : L2.St} {H : Hp} (n : Nat) (hn : n = min as.length bs.length) (hx : rL A K M H x as) (hy : rL B K M H y bs)
    (Pv : Nat → L2.St → Hp → Prop) (h0 : Pv 0 σ H) (hq : ∀ i σ H, Pv i σ H → rL A K M H x as ∧ rL B K M H y bs ∧ Own M H)
    (hs : ∀ (i : Nat) (a : α) (b : β) (v : V) (σ : L2.St) (H H' : Hp) (N : L2.St → Hp → Prop), i < n → as[i]? = some a → bs[i]? = some b → Pv i σ H → Same H H' → Own M H' → rT2 A B K M H' v (a, b) → (∀ σ' H', Pv (i + 1) σ' H' → N σ' H') → g v σ H' fun σ2 H2 => tb { D with nx := N, ct := N, bk := D.nx } σ2 H2)
    (hd : ∀ σ H, Pv n σ H → D.nx σ H) : rZip K [x, y] H fun a b => ForZ K a b g tb D σ H := by
  obtain ⟨a, xs, rfl, la, pa⟩ := hx
  obtain ⟨b, ys, rfl, lb, pb⟩ := hy
  have e1 := Prd.len pa
  have e2 := Prd.len pb
  refine ⟨a, b, xs, ys, rfl, la.sq, lb.sq, ?_⟩
  refine ⟨fun i m σ H => m = n - i ∧ i ≤ n ∧ Pv i σ H, ⟨n, by simp, Nat.zero_le _, h0⟩, ?_⟩
  rintro i m σ H ⟨rfl, hi, p⟩
  obtain ⟨qx, qy, w⟩ := hq i σ H p
  obtain ⟨_, xs', ex, la', pa'⟩ := qx
  cases ex
  obtain ⟨_, ys', ey, lb', pb'⟩ := qy
  cases ey
  have e3 := Prd.len pa'
  have e4 := Prd.len pb'
  by_cases hlt : i < n
  · have h1 : i < xs'.length := by omega
    have h2 : i < ys'.length := by omega
    refine .inr ⟨⟨xs', ys', xs'[i], ys'[i], la'.sq, lb'.sq, by simp [h1], by simp [h2]⟩, Pv (i + 1), fun σ' H' p' => ⟨n - (i + 1), by omega, rfl, hlt, p'⟩, fun v H' y => ?_⟩
    obtain ⟨T, x', y', rfl, hT, rfl, f1, f2⟩ := y
    obtain ⟨ea, ha, ra⟩ := Prd.getL pa' (f1 _ la'.sq)
    obtain ⟨eb, hb, rb⟩ := Prd.getL pb' (f2 _ lb'.sq)
    have s : Same H (upd H T (.tup [x', y'])) := Same.upd_new hT
    exact hs i ea eb _ σ H _ _ hlt ha hb p s (w.same s) ⟨T, x', y', rfl, .inl ⟨w.fresh hT, upd_same⟩, Rp.same s ra, Rp.same s rb⟩ fun _ _ z => z
  · have e : i = n := by omega
    subst e
    exact .inl ⟨⟨xs', ys', la'.sq, lb'.sq, by omega⟩, hd σ H p⟩
/-! ## own exceptions without __init__, over ValueError -/
structure ExC (K : Fg) (mg : Str → Option Value) (x : Str) (C : Addr) : Prop where
  gP : mg x = some (.ref C)
  xP : PySem.W.excIn K C [.type "ValueError", .type "Exception", .type "BaseException", .type "object"] "ValueError.__new__" = true
  kP : PySem.W.keepIn K (.ref C) = true
  bP : PySem.W.subIn K (.ref C) (.type "BaseException") = some true
  tP : PySem.W.typeIn K (.ref C) = some (.type "type")
  eP : PySem.W.exmOne K (.ref C) (.ref C) = some true
def tRaise (C : Addr) (E : XK) : TS := fun _ _ H => E (.ref C) none H
theorem ps_raiseT {P : Program} {w : World} {K : Fg} {mg : Str → Option Value} {base : Heap} {N : List Str} {qual : Str} {scope : Scope} {f : Addr} {cd : Value} {A : Around} {outer : List Env} {s : Shared} {H : Hp} {E : XK} {x m : Str} {C : Addr} {j : Nat} {p p2 pos pos2 : Pos} (X : ExC K mg x C)
    (hg : Gl (cxOf (L2.CX P w) P w K mg base N qual scope f cd A outer s H E) x) (hdb : (x == ("__debug__" : Str)) = false := by decide) :
    PS (cxOf (L2.CX P w) P w K mg base N qual scope f cd A outer s H E) (.Raise (some (.Call (.Name x p) [.Constant (.str m) j p2] [] pos)) none pos2) (tRaise C E) :=
  ps_raise rfl (takes_of rfl rfl rfl rfl) (pmk_own PySem.F.excBase_ValueError X.xP X.gP X.kP (raises_own X.bP X.tP) hg hdb)
theorem s_raise {C : Addr} {E : XK} {D : Ends} {σ : L2.St} {H : Hp} (h : E (.ref C) none H) : tRaise C E D σ H := h
/-- a raising def that calls another one: what is let out there is let out here -/
theorem passThru {P : Program} {w : World} {K : Fg} {mg : Str → Option Value} {base : Heap} {N : List Str} {qual : Str} {scope : Scope} {f : Addr} {cd : Value} {A : Around} {outer : List Env} {s : Shared} {H : Hp} {E : XK} :
    Passes (L2.CX P w) (cxOf (L2.CX P w) P w K mg base N qual scope f cd A outer s H E) E := passes_call (takes_of rfl rfl rfl rfl) fun _ _ _ _ h => h
theorem passLam {X : Cx} {A : Around} {outer : List Env} {s : Shared} {H : Hp} {E : XK} {scope : Scope} {f c : Addr} : Passes (L2.CX X.prog X.w) (LamX.lamCx X A outer s H E scope f c) E := passes_call (takes_of rfl rfl rfl rfl) fun _ _ _ _ h => h
/-! ## a def that knows its code object -/
theorem Fun.okC {P : Program} {w : World} {K : Fg} {mg : Str → Option Value} {base : Heap} {x qual : Str} {st : Stmt} {f : Addr} {oc : Value} {od an : Option Addr} {osl : Array (Option Value)} {kV doc pm cdv ct : Value} {N ps : List Str} {k : Nat} {sp : Sp}
    (l : K.lookup f = some ⟨oc, od, .func (PySem.W.fnOf x qual (defArgs st) (defBody st) (defScope st) .none kV doc pm an cdv ct), osl⟩) (c : PySem.W.codeIn K cdv qual = true) (S : FnScope N ps (defScope st)) (len : ∀ vs H Q E, sp vs H Q E → vs.length = ps.length)
    (hbody : ∀ (A : Around) (outer : List Env) (s : Shared) (H : Hp) (vs : List V) (Q : VK) (E : XK), Room k (A.deeper (envOfC qual (defScope st) s.heap.objs.size f cdv)) → sp vs H Q E →
      ∃ t, PSs (cxOf CX0 P w K mg base N qual (defScope st) f cdv A outer s H E).nox (defBody st) t ∧ t { nx := fun _ H' => Q .non H', rt := Q } (start N vs) H) :
    FnOk P w K mg base CX0 (k + 1) f (PySem.W.fnOf x qual (defArgs st) (defBody st) (defScope st) .none kV doc pm an cdv ct) ps sp :=
  fn_of l c S len fun A outer s H vs Q E hr hsp => by
    obtain ⟨t, h, q⟩ := hbody A outer s H vs Q E hr hsp
    exact ⟨t, h.nox, q⟩
/-! ## f(lambda: e) where f calls it in a try -/
def TTry (CT : Addr) : (XK → Hp → VK → Prop) → Hp → VK → Prop := fun tl H Q => tl (fun cls _ H' => cls = .ref CT ∧ Q (.bl true) H') H fun _ H' => ∃ v, (some (some (V.bl false)) : Option (Option V)) = some (some v) ∧ Q v H'
structure CalW (K : Fg) (mg : Str → Option Value) (x a : Str) (CT : Addr) : Prop where
  ex : ∃ (g : Addr) (pg : Arguments) (bg : List Stmt) (sg : Scope) (dV kV doc pm cdv ct oc : Value) (an od : Option Addr) (osl : Array (Option Value)) (Ng : List Str),
    K.lookup g = some ⟨oc, od, .func (PySem.W.fnOf x x pg bg sg dV kV doc pm an cdv ct), osl⟩ ∧ mg x = some (.ref g) ∧ PySem.W.keepIn K (.ref g) = true ∧ PySem.W.codeIn K cdv x = true ∧
    L2.Binds K (PySem.W.fnOf x x pg bg sg dV kV doc pm an cdv ct) [a] [] ∧ FnScope Ng [a] sg ∧ Ng[0]? = some a ∧ Vis sg a ∧ ∀ (X : Cx) (q : Str), X.K = K → X.mg = mg → LamX.GivesTo X Ng x sg g cdv bg a q (TTry CT)
def tLamE (T : List (Addr × Str)) (CT : Addr) (t : XK → TE) : TE := LamX.tLam T (TTry CT) t
theorem pe_lam {X : Cx} {x a : Str} {c P CT : Addr} {k : Nat} {params : Arguments} {body : Expr} {scope : Scope} {t : XK → TE} {p lpos pos : Pos} {q : Str} (G : CalW X.K X.mg x a CT) (hg : Gl X x) (TB : LamX.TabB X.base X.mg c P) (hcode : X.env.code = .ref c) (hq : X.env.qual ++ "<lambda>" = q)
    (hr : Room (k + 2) X.A) (L : LamX.LamS X.env.scope scope) (hdef : defaultsOf params X.env = ([], [])) (hbind : ∀ (q : Str) (cl : List (Str × Addr)) (pm cv ctv : Value), bindArgs (PySem.W.kla_fn "<lambda>" q params body scope cl pm cv ctv) ⟨[], []⟩ = pure [])
    (hbody : ∀ (A : Around) (outer : List Env) (s : Shared) (H : Hp) (E : XK) (f c' : Addr), Room k (A.deeper (LamX.lamEnv X scope s.heap.objs.size f c')) → PE (LamX.lamCx X A outer s H E scope f c') body (t E))
    (hdb : (x == ("__debug__" : Str)) = false := by decide) (hd : (a == ("__debug__" : Str)) = false := by decide) (hcd : (a == ("__classdict__" : Str)) = false := by decide) :
    PE X (.Call (.Name x p) [.Lambda params body scope lpos] [] pos) (tLamE [(P, q)] CT t) := by
  subst hq
  obtain ⟨g, pg, bg, sg, dV, kV, doc, pm, cdv, ct, oc, an, od, osl, Ng, lk, hm, hk, hc, hb, Sg, hNg, hva, hG⟩ := G.ex
  exact LamX.pe_lamcall (T := [(P, X.env.qual ++ "<lambda>")]) hg hm hk lk hc hb Sg hNg hva (hG X _ rfl rfl) TB hcode (by simp) (fun p hp _ => by rw [List.mem_singleton.mp hp]) hr L hdef hbind hbody hdb hd hcd
theorem s_lamE {T : List (Addr × Str)} {CT : Addr} {t : XK → TE} {σ : L2.St} {H : Hp} {Q : VK} (hT : LamX.Tabs T H) (h : ∀ H1, LamX.ExtN H H1 → LamX.Tabs T H1 → t (fun cls _ H' => cls = .ref CT ∧ Q (.bl true) H') σ H1 fun _ H' => ∃ v, (some (some (V.bl false)) : Option (Option V)) = some (some v) ∧ Q v H') : tLamE T CT t σ H Q := ⟨hT, h⟩
theorem takes_len {X : Cx} {W : WX} (t : Takes X W) : Takes X (fun c d σ H => σ.length = X.N.length → W c d σ H) := fun u s' ⟨a, B, sI, pins, σ, H, cls, d, e, I, nb, up, sky, na, os, ag, w⟩ =>
  t u s' ⟨a, B, sI, pins, σ, H, cls, d, e, I, nb, up, sky, na, os, ag, w I.len⟩
/-! ## what stays when tables of code grow -/
class MonoN {α : Type} (R : Rp α) : Prop where
  mono : ∀ {K : Fg} {M : Ms} {H H' : Hp} {v : V} {a : α}, LamX.ExtN H H' → R K M H v a → R K M H' v a
theorem TupM.ext {K : Fg} {M : Ms} {H H' : Hp} {a : Addr} {xs : List V} (t : LamX.ExtN H H') (h : TupM K M H a xs) : TupM K M H' a xs :=
  h.elim (fun z => .inl ⟨z.1, t _ _ z.2 fun _ q => by cases q⟩) .inr
theorem LstM.ext {K : Fg} {M : Ms} {H H' : Hp} {a : Addr} {xs : List V} (t : LamX.ExtN H H') (h : LstM K M H a xs) : LstM K M H' a xs :=
  h.elim (fun z => .inl ⟨z.1, z.2.elim (fun e => .inl (t _ _ e fun _ q => by cases q)) fun ⟨o, e⟩ => .inr ⟨o, t _ _ e fun _ q => by cases q⟩⟩) .inr
instance : MonoN rInt := ⟨fun _ h => h⟩
instance : MonoN rBl := ⟨fun _ h => h⟩
instance : MonoN rFr := ⟨fun t ⟨p, e, h⟩ => ⟨p, e, h.ext t⟩⟩
instance {α β : Type} (A : Rp α) (B : Rp β) [MonoN A] [MonoN B] : MonoN (rT2 A B) := ⟨fun t ⟨p, x, y, e, h, a, b⟩ => ⟨p, x, y, e, h.ext t, MonoN.mono t a, MonoN.mono t b⟩⟩
instance {α : Type} (A : Rp α) [MonoN A] : MonoN (rL A) := ⟨fun t ⟨p, vs, e, h, a⟩ => ⟨p, vs, e, h.ext t, Prd.monoR (fun _ _ z => MonoN.mono t z) a⟩⟩
instance (C : Addr) : MonoN (rTt C) := ⟨fun t ⟨p, dx, lk, lp, e, n, h, a, b⟩ => ⟨p, dx, lk, lp, e, n, t _ _ h fun _ q => (by cases q), MonoN.mono t a, MonoN.mono t b⟩⟩
theorem DrawAt.ext {H H' : Hp} {d : Addr} {l : LI} {N : Nat} (t : LamX.ExtN H H') (h : DrawAt H d l N) : DrawAt H' d l N := by
  obtain ⟨xs, ls, x, y, h1, h2, h3, r⟩ := h.ex
  exact ⟨xs, ls, x, y, t _ _ h1 fun _ q => (by cases q), t _ _ h2 fun _ q => (by cases q), t _ _ h3 fun _ q => (by cases q), r⟩
theorem tabs_but {T : List (Addr × Str)} {H H' : Hp} {d : Addr} {l : LI} {N : Nat} (h : DrawAt H d l N) (b : But d l.1 H H') (t : LamX.Tabs T H) : LamX.Tabs T H' := fun p hp => by
  obtain ⟨xs, ls, x, y, h1, h2, h3, r⟩ := h.ex
  obtain ⟨ps, e1, e2, e3⟩ := t p hp
  refine ⟨ps, b.kp _ _ e1 (fun z => by rw [z, h1] at e1; cases e1) (fun z => by rw [z, h2] at e1; cases e1), e2, fun pos cv hc => ?_⟩
  obtain ⟨c, f1, f2⟩ := e3 pos cv hc
  refine ⟨c, f1, b.kp _ _ f2 (fun z => ?_) (fun z => ?_)⟩
  · rw [z, h1] at f2
    unfold LamX.CodeO at f2
    cases f2
  · rw [z, h2] at f2
    unfold LamX.CodeO at f2
    cases f2

/-! ## ways: by neighbouring stretches -/
theorem absQ_nn (a : Rat) : 0 ≤ absQ a := by unfold absQ; split <;> grind
theorem absQ_of_nn {a : Rat} (h : 0 ≤ a) : absQ a = a := by unfold absQ; rw [if_neg (Rat.not_lt.mpr h)]
theorem absQ_zero : absQ 0 = 0 := absQ_of_nn Rat.le_refl
theorem absQ_tri (a b : Rat) : absQ (a + b) ≤ absQ a + absQ b := by unfold absQ; split <;> split <;> split <;> grind
/-- at a knot: its place -/
theorem cnt_knot {ks : List Kn} (h : Asc ks) {i : Nat} {a : Kn} (e : ks[i]? = some a) : cntLe ks a.1 = i + 1 := by
  have h1 := (cnt_get (t := a.1) h e).mp Rat.le_refl
  have l := cntLe_le ks a.1
  by_cases h2 : i + 1 < cntLe ks a.1
  · have hl : i + 1 < ks.length := by omega
    have e2 := List.getElem?_eq_getElem hl
    have := (cnt_get (t := a.1) h e2).mpr h2
    have := h.get e e2 (Nat.lt_succ_self i)
    grind
  · omega
theorem pos_knot {ks : List Kn} (h : Asc ks) {k : Kn} (hk : k ∈ ks) : posAt ks k.1 = k.2 := by
  obtain ⟨i, hi, rfl⟩ := List.mem_iff_getElem.mp hk
  have e := List.getElem?_eq_getElem hi
  unfold posAt
  rw [cnt_knot h e, Nat.add_sub_cancel, e]
  grind
/-- without a knot strictly between: on one line -/
theorem cnt_mono {ks : List Kn} {t v : Rat} (h : t ≤ v) : cntLe ks t ≤ cntLe ks v := by
  unfold cntLe
  exact List.countP_mono_left fun p _ hp => by
    simp only [decide_eq_true_eq] at *
    exact Std.le_trans hp h
theorem pos_lin {ks : List Kn} {a0 : Kn} (h : Asc ks) (h0 : ks[0]? = some a0) {t v : Rat} (hl : a0.1 ≤ t) (hv : t ≤ v) (hn : ∀ k ∈ ks, ¬ (t < k.1 ∧ k.1 < v)) : posAt ks v = posAt ks t + paceB ks (cntLe ks t - 1) * (v - t) := by
  have cp := cntLe_pos h0 hl
  have cl := cntLe_le ks t
  have cl2 := cntLe_le ks v
  have cm := cnt_mono (ks := ks) hv
  have ha : cntLe ks t - 1 < ks.length := by omega
  have ea := List.getElem?_eq_getElem ha
  by_cases hc : cntLe ks v = cntLe ks t
  · unfold posAt
    rw [hc, ea]
    simp only
    grind
  · -- the next knot is at v
    have hb : cntLe ks t < ks.length := by omega
    have eb := List.getElem?_eq_getElem hb
    have h1 : ¬ (ks[cntLe ks t]).1 ≤ t := fun z => by have := (cnt_get h eb).mp z; omega
    have h2 : (ks[cntLe ks t]).1 ≤ v := (cnt_get h eb).mpr (by omega)
    have h3 : ¬ (ks[cntLe ks t]).1 < v := fun z => hn _ (List.getElem_mem hb) ⟨Rat.not_le.mp h1, z⟩
    have h4 : (ks[cntLe ks t]).1 = v := by have := Rat.not_lt.mp h3; grind
    have ep : posAt ks v = (ks[cntLe ks t]).2 := by rw [← h4]; exact pos_knot h (List.getElem_mem hb)
    have es : cntLe ks t - 1 + 1 = cntLe ks t := by omega
    have eb' : ks[cntLe ks t - 1 + 1]? = some ks[cntLe ks t] := by rw [es]; exact eb
    have lt := h.get ea eb (by omega)
    rw [ep]
    unfold posAt
    rw [ea]
    simp only
    have epc : paceB ks (cntLe ks t - 1) = ((ks[cntLe ks t]).2 - (ks[cntLe ks t - 1]).2) / ((ks[cntLe ks t]).1 - (ks[cntLe ks t - 1]).1) := by
      unfold paceB
      rw [ea, eb']
    rw [epc, ← h4]
    have hne : (ks[cntLe ks t]).1 - (ks[cntLe ks t - 1]).1 ≠ 0 := by grind
    have := Rat.div_mul_cancel (a := (ks[cntLe ks t]).2 - (ks[cntLe ks t - 1]).2) hne
    grind
theorem abs_lin {ks : List Kn} {a0 : Kn} (h : Asc ks) (h0 : ks[0]? = some a0) {t u w : Rat} (hl : a0.1 ≤ t) (htu : t ≤ u) (huw : u ≤ w) (hn : ∀ k ∈ ks, ¬ (t < k.1 ∧ k.1 < w)) :
    absQ (posAt ks w - posAt ks t) = absQ (posAt ks u - posAt ks t) + absQ (posAt ks w - posAt ks u) := by
  have e1 := pos_lin h h0 hl (Std.le_trans htu huw) hn
  have e2 := pos_lin h h0 hl htu fun k hk z => hn k hk ⟨z.1, by have := z.2; grind⟩
  rw [e1, e2]
  generalize paceB ks (cntLe ks t - 1) = s
  rw [show posAt ks t + s * (w - t) - posAt ks t = (w - t) * s by grind, show posAt ks t + s * (u - t) - posAt ks t = (u - t) * s by grind, show posAt ks t + s * (w - t) - (posAt ks t + s * (u - t)) = (w - u) * s by grind,
    absQ_mul, absQ_mul, absQ_mul, absQ_of_nn (a := w - t) (by grind), absQ_of_nn (a := u - t) (by grind), absQ_of_nn (a := w - u) (by grind)]
  grind
/-- the way over stops -/
def stp (L : List Rat) (t w : Rat) : List Rat := L.filter fun x => decide (t < x) && decide (x < w)
def wayP (p : Rat → Rat) (L : List Rat) (t w : Rat) : Rat := wayK (p t :: ((stp L t w).map p ++ [p w]))
theorem wayP_nil {p : Rat → Rat} {L : List Rat} {t w : Rat} (h : ∀ x ∈ L, ¬ (t < x ∧ x < w)) : wayP p L t w = absQ (p w - p t) := by
  unfold wayP
  rw [show stp L t w = [] from List.filter_eq_nil_iff.mpr fun x hx z => h x hx (by simpa using z)]
  show absQ _ + 0 = _
  grind
theorem stp_skip {L : List Rat} {x t w : Rat} (h : ¬ (t < x ∧ x < w)) : stp (x :: L) t w = stp L t w := by
  unfold stp
  rw [List.filter_cons, if_neg (by simpa using h)]
theorem stp_take {L : List Rat} {x t w : Rat} (hL : ∀ y ∈ L, x < y) (h1 : t < x) (h2 : x < w) : stp (x :: L) t w = x :: stp L x w := by
  unfold stp
  rw [List.filter_cons, if_pos (by simp [h1, h2])]
  congr 1
  refine List.filter_congr fun y hy => ?_
  have := hL y hy
  have : t < y := by grind
  simp [*]
theorem wayP_take {p : Rat → Rat} {L : List Rat} {x t w : Rat} (hL : ∀ y ∈ L, x < y) (h1 : t < x) (h2 : x < w) : wayP p (x :: L) t w = absQ (p x - p t) + wayP p L x w := by
  unfold wayP
  rw [stp_take hL h1 h2]
  rfl
theorem wayP_skip {p : Rat → Rat} {L : List Rat} {x t w : Rat} (h : ¬ (t < x ∧ x < w)) : wayP p (x :: L) t w = wayP p L t w := by
  unfold wayP
  rw [stp_skip h]
theorem wayP_add {p : Rat → Rat} : ∀ (L : List Rat) (t u w : Rat), L.Pairwise (· < ·) → (∀ a b c, t ≤ a → a ≤ b → b ≤ c → (∀ x ∈ L, ¬ (a < x ∧ x < c)) → absQ (p c - p a) = absQ (p b - p a) + absQ (p c - p b)) → t ≤ u → u ≤ w → wayP p L t w = wayP p L t u + wayP p L u w
  | [], t, u, w, _, P, h1, h2 => by
    rw [wayP_nil (by simp), wayP_nil (by simp), wayP_nil (by simp)]
    exact P t u w Rat.le_refl h1 h2 (by simp)
  | x :: L, t, u, w, hs, P, h1, h2 => by
    obtain ⟨hx, hs'⟩ := List.pairwise_cons.mp hs
    by_cases c1 : x ≤ t
    · have k : ∀ a c, t ≤ a → ¬ (a < x ∧ x < c) := fun a c ha z => by grind
      rw [wayP_skip (k t w Rat.le_refl), wayP_skip (k t u Rat.le_refl), wayP_skip (k u w h1)]
      refine wayP_add L t u w hs' (fun a b c ha hb hc hn => P a b c ha hb hc fun y hy => ?_) h1 h2
      rcases List.mem_cons.mp hy with rfl | hy
      · exact k a c ha
      · exact hn y hy
    · have c1' := Rat.not_le.mp c1
      by_cases c2 : w ≤ x
      · have k : ∀ a c, c ≤ w → ∀ y ∈ x :: L, ¬ (a < y ∧ y < c) := fun a c hc y hy z => by
          rcases List.mem_cons.mp hy with rfl | hy
          · grind
          · have := hx y hy; grind
        rw [wayP_nil (k t w Rat.le_refl), wayP_nil (k t u h2), wayP_nil (k u w Rat.le_refl)]
        exact P t u w Rat.le_refl h1 h2 (k t w Rat.le_refl)
      · have c2' := Rat.not_le.mp c2
        have P' : ∀ a b c, x ≤ a → a ≤ b → b ≤ c → (∀ y ∈ L, ¬ (a < y ∧ y < c)) → absQ (p c - p a) = absQ (p b - p a) + absQ (p c - p b) := fun a b c ha hb hc hn => P a b c (by grind) hb hc fun y hy => by
          rcases List.mem_cons.mp hy with rfl | hy
          · intro z; grind
          · exact hn y hy
        have kb : ∀ a c, c ≤ x → ∀ y ∈ x :: L, ¬ (a < y ∧ y < c) := fun a c hc y hy z => by
          rcases List.mem_cons.mp hy with rfl | hy
          · grind
          · have := hx y hy; grind
        rw [wayP_take hx c1' c2']
        by_cases c3 : x < u
        · rw [wayP_take hx c1' c3, wayP_skip (x := x) (t := u) (fun z => by grind), wayP_add L x u w hs' P' (by grind) h2]
          grind
        · have c3' := Rat.not_lt.mp c3
          rw [wayP_nil (kb t u c3')]
          by_cases c4 : u < x
          · rw [wayP_take hx c4 c2', P t u x Rat.le_refl h1 c3' (kb t x Rat.le_refl)]
            grind
          · have : u = x := by grind
            subst this
            rw [wayP_skip (x := u) (t := u) (fun z => by grind)]
theorem wayOf_P {ks : List Kn} (h : Asc ks) (t w : Rat) : wayK (wayOf ks t w) = wayP (posAt ks) (ks.map (·.1)) t w := by
  unfold wayP wayOf betw stp
  congr 2
  congr 1
  rw [List.filter_map, List.map_map]
  refine List.map_congr_left fun k hk => ?_
  exact (pos_knot h (List.mem_filter.mp hk).1).symm
theorem way_add {ks : List Kn} {a0 : Kn} (h : Asc ks) (h0 : ks[0]? = some a0) {t u w : Rat} (hl : a0.1 ≤ t) (htu : t ≤ u) (huw : u ≤ w) : wayK (wayOf ks t w) = wayK (wayOf ks t u) + wayK (wayOf ks u w) := by
  rw [wayOf_P h, wayOf_P h, wayOf_P h]
  refine wayP_add _ t u w ?_ (fun a b c ha hb hc hn => abs_lin h h0 (Std.le_trans hl ha) hb hc fun k hk => hn _ (List.mem_map.mpr ⟨k, hk, rfl⟩)) htu huw
  rw [List.pairwise_map]
  exact h
/-- no way is shorter than the difference -/
theorem way_ge : ∀ (a : Rat) (r : List Rat) (z : Rat), absQ (z - a) ≤ wayK (a :: (r ++ [z]))
  | a, [], z => by
    show _ ≤ absQ (z - a) + 0
    grind
  | a, b :: r, z => by
    have := way_ge b r z
    have t := absQ_tri (z - b) (b - a)
    rw [show z - b + (b - a) = z - a by grind] at t
    show _ ≤ absQ (b - a) + wayK (b :: (r ++ [z]))
    grind
theorem way_same (ks : List Kn) (t : Rat) : wayK (wayOf ks t t) = 0 := by
  unfold wayOf betw
  rw [List.filter_eq_nil_iff.mpr (fun k _ z => by
    simp only [Bool.and_eq_true, decide_eq_true_eq] at z
    have := z.1; have := z.2; grind)]
  show absQ (posAt ks t - posAt ks t) + 0 = 0
  rw [show posAt ks t - posAt ks t = 0 by grind, absQ_zero]
  grind
/-- a way that goes on in one direction -/
theorem way_up : ∀ (a : Rat) (r : List Rat) (z : Rat), (a :: (r ++ [z])).Pairwise (· ≤ ·) → wayK (a :: (r ++ [z])) = z - a
  | a, [], z, h => by
    have := (List.pairwise_cons.mp h).1 z (by simp)
    show absQ (z - a) + 0 = _
    rw [absQ_of_nn (by grind)]
    grind
  | a, b :: r, z, h => by
    obtain ⟨h1, h2⟩ := List.pairwise_cons.mp h
    have := way_up b r z h2
    have := h1 b (by simp)
    show absQ (b - a) + wayK (b :: (r ++ [z])) = _
    rw [absQ_of_nn (by grind)]
    grind

/-! ## plain knots tell the function, and the function tells them -/
def sl (a b : Kn) : Rat := (b.2 - a.2) / (b.1 - a.1)
def sl0 (a : Kn) : List Kn → Rat
  | [] => 0
  | b :: _ => sl a b
def goK : Kn → List Kn → List Kn
  | _, [] => []
  | a, b :: M => (if sl a b = sl0 b M then [] else [b]) ++ goK b M
def posF : Kn → List Kn → Rat → Rat
  | a, [], _ => a.2
  | a, b :: M, t => if t < b.1 then a.2 + sl a b * (t - a.1) else posF b M t
theorem sl_mul {a b : Kn} (h : a.1 < b.1) : b.2 = a.2 + sl a b * (b.1 - a.1) := by
  unfold sl
  have := Rat.div_mul_cancel (a := b.2 - a.2) (b := b.1 - a.1) (by grind)
  grind
theorem sl_of {a b : Kn} {s : Rat} (h : a.1 < b.1) (e : b.2 = a.2 + s * (b.1 - a.1)) : sl a b = s := by
  have h2 := sl_mul h
  have h3 : (sl a b - s) * (b.1 - a.1) = 0 := by grind
  rcases Rat.mul_eq_zero.mp h3 with z | z
  · grind
  · exfalso; grind
theorem pace_shift (a : Kn) (L : List Kn) (i : Nat) : paceB (a :: L) (i + 1) = paceB L i := by
  unfold paceB
  rfl
theorem pace_zero (a : Kn) (M : List Kn) : paceB (a :: M) 0 = sl0 a M := by
  cases M with
  | nil => rfl
  | cons b M => rfl
theorem goK_eq : ∀ (M : List Kn) (a : Kn), ((List.range M.length).filter fun i => !decide (paceB (a :: M) i = paceB (a :: M) (i + 1))).map (fun i => (a :: M).getD (i + 1) (0, 0)) = goK a M
  | [], a => rfl
  | b :: M, a => by
    have ih := goK_eq M b
    rw [List.length_cons, List.range_succ_eq_map, List.filter_cons]
    rw [show paceB (a :: b :: M) (0 + 1) = sl0 b M by rw [pace_shift, pace_zero], pace_zero]
    rw [goK, ← ih, List.filter_map]
    have e : (List.map Nat.succ (List.filter ((fun i => !decide (paceB (a :: b :: M) i = paceB (a :: b :: M) (i + 1))) ∘ Nat.succ) (List.range M.length))).map (fun i => (a :: b :: M).getD (i + 1) (0, 0)) = ((List.range M.length).filter fun i => !decide (paceB (b :: M) i = paceB (b :: M) (i + 1))).map (fun i => (b :: M).getD (i + 1) (0, 0)) := by
      rw [List.map_map]
      rfl
    rw [show sl0 a (b :: M) = sl a b from rfl]
    by_cases h : sl a b = sl0 b M
    · rw [if_neg (by simp [h]), if_pos h, e]
      rfl
    · rw [if_pos (by simp [h]), if_neg h, List.map_cons, e]
      rfl
theorem plain_go (a : Kn) (M : List Kn) : plainK (a :: M) = a :: goK a M := by
  unfold plainK
  rw [← goK_eq]
  rfl
theorem posAt_F : ∀ (M : List Kn) (a : Kn) (t : Rat), Asc (a :: M) → a.1 ≤ t → posAt (a :: M) t = posF a M t
  | [], a, t, h, hl => by
    have c : cntLe [a] t = 1 := by simp [cntLe, hl]
    unfold posAt
    rw [c]
    show a.2 + paceB [a] 0 * (t - a.1) = a.2
    rw [pace_zero, sl0]
    grind
  | b :: M, a, t, h, hl => by
    obtain ⟨h1, h2⟩ := List.pairwise_cons.mp h
    have c : cntLe (a :: b :: M) t = cntLe (b :: M) t + 1 := by
      unfold cntLe
      rw [List.countP_cons, if_pos (by simpa using hl)]
    by_cases hb : t < b.1
    · have c0 : cntLe (b :: M) t = 0 := by
        have := (cnt_get (t := t) h2 (i := 0) (a := b) rfl)
        have h3 : ¬ b.1 ≤ t := Rat.not_le.mpr hb
        rw [this] at h3
        omega
      unfold posAt
      rw [c, c0]
      show a.2 + paceB (a :: b :: M) 0 * (t - a.1) = _
      rw [pace_zero, posF, if_pos hb]
      rfl
    · have cp := cntLe_pos (ks := b :: M) (t := t) (a := b) rfl (Rat.not_lt.mp hb)
      rw [posF, if_neg hb, ← posAt_F M b t h2 (Rat.not_lt.mp hb)]
      unfold posAt
      rw [c]
      obtain ⟨n, hn⟩ : ∃ n, cntLe (b :: M) t = n + 1 := ⟨cntLe (b :: M) t - 1, by omega⟩
      rw [hn]
      show (match (a :: b :: M)[n + 1]? with | some k => k.2 + paceB (a :: b :: M) (n + 1) * (t - k.1) | none => 0) = _
      rw [pace_shift]
      rfl
theorem F_start (M : List Kn) {a : Kn} (h : Asc (a :: M)) : posF a M a.1 = a.2 := by
  rw [← posAt_F M a a.1 h Rat.le_refl]
  exact pos_knot h (by simp)
theorem sl0_go : ∀ (M : List Kn) (a : Kn), Asc (a :: M) → sl0 a (goK a M) = sl0 a M
  | [], a, _ => rfl
  | b :: M, a, h => by
    obtain ⟨h1, h2⟩ := List.pairwise_cons.mp h
    have ih := sl0_go M b h2
    have lab := h1 b (by simp)
    rw [goK]
    by_cases e : sl a b = sl0 b M
    · rw [if_pos e, List.nil_append]
      cases hN : goK b M with
      | nil => rw [hN] at ih; show (0 : Rat) = sl a b; rw [e, ← ih]; rfl
      | cons c N =>
        rw [hN] at ih
        have hc : b.1 < c.1 := by
          have hm : c ∈ goK b M := by rw [hN]; simp
          have sub : ∀ (L : List Kn) (x y : Kn), y ∈ goK x L → y ∈ L := by
            intro L
            induction L with
            | nil => intro x y hy; simp [goK] at hy
            | cons z L ihL =>
              intro x y hy
              rw [goK] at hy
              rcases List.mem_append.mp hy with hy | hy
              · split at hy
                · simp at hy
                · rw [List.mem_singleton.mp hy]; simp
              · exact List.mem_cons_of_mem _ (ihL z y hy)
          exact (List.pairwise_cons.mp h2).1 c (sub _ _ _ hm)
        show sl a c = sl a b
        have e2 : sl b c = sl a b := by rw [e, ← ih]; rfl
        refine sl_of (by grind) ?_
        have k1 := sl_mul lab
        have k2 := sl_mul hc
        rw [e2] at k2
        grind
    · rw [if_neg e]
      rfl
theorem goK_sub : ∀ (L : List Kn) (x y : Kn), y ∈ goK x L → y ∈ L := by
  intro L
  induction L with
  | nil => intro x y hy; simp [goK] at hy
  | cons z L ihL =>
    intro x y hy
    rw [goK] at hy
    rcases List.mem_append.mp hy with hy | hy
    · split at hy
      · simp at hy
      · rw [List.mem_singleton.mp hy]; simp
    · exact List.mem_cons_of_mem _ (ihL z y hy)
/-- the plain knots have the same function -/
theorem F_go : ∀ (M : List Kn) (a : Kn) (t : Rat), Asc (a :: M) → a.1 ≤ t → posF a (goK a M) t = posF a M t
  | [], a, t, _, _ => rfl
  | b :: M, a, t, h, hl => by
    obtain ⟨h1, h2⟩ := List.pairwise_cons.mp h
    have lab := h1 b (by simp)
    have ih := F_go M b t h2
    have s0 := sl0_go M b h2
    rw [goK, posF]
    by_cases e : sl a b = sl0 b M
    · rw [if_pos e, List.nil_append]
      have kb := sl_mul lab
      cases hN : goK b M with
      | nil =>
        rw [hN] at ih s0
        have z : sl a b = 0 := by rw [e, ← s0]; rfl
        rw [z] at kb ⊢
        by_cases ht : t < b.1
        · rw [if_pos ht]; show a.2 = _; grind
        · rw [if_neg ht, ← ih (Rat.not_lt.mp ht)]; show a.2 = b.2; grind
      | cons c N =>
        rw [hN] at ih s0
        have hc : b.1 < c.1 := (List.pairwise_cons.mp h2).1 c (goK_sub _ _ _ (by rw [hN]; simp))
        have e2 : sl b c = sl a b := by rw [e, ← s0]; rfl
        have kc := sl_mul hc
        have e3 : sl a c = sl a b := sl_of (by grind) (by rw [e2] at kc; grind)
        rw [posF, e3]
        by_cases ht : t < b.1
        · rw [if_pos ht, if_pos (by grind)]
        · rw [if_neg ht, ← ih (Rat.not_lt.mp ht), posF, e2]
          by_cases htc : t < c.1
          · rw [if_pos htc, if_pos htc]; grind
          · rw [if_neg htc, if_neg htc]
    · rw [if_neg e]
      show posF a (b :: goK b M) t = _
      rw [posF]
      by_cases ht : t < b.1
      · rw [if_pos ht, if_pos ht]
      · rw [if_neg ht, if_neg ht, ih (Rat.not_lt.mp ht)]
/-- a knot on the way, ahead of the next one, changes nothing -/
theorem ins_go {a b : Kn} {M : List Kn} (h : Asc (a :: M)) (l : a.1 < b.1) (hb : ∀ c ∈ M, b.1 < c.1) (e : b.2 = posF a M b.1) : sl a b = sl0 b M ∧ goK b M = goK a M ∧ ∀ t, b.1 ≤ t → posF b M t = posF a M t := by
  cases M with
  | nil =>
    have e2 : b.2 = a.2 := e
    exact ⟨sl_of l (by show b.2 = a.2 + 0 * (b.1 - a.1); rw [e2]; grind), rfl, fun t _ => e2⟩
  | cons c M =>
    have lbc := hb c (by simp)
    rw [posF, if_pos lbc] at e
    have e1 : sl a b = sl a c := sl_of l e
    have kc := sl_mul (a := a) (b := c) (by grind)
    have e2 : sl b c = sl a c := sl_of lbc (by grind)
    refine ⟨by rw [e1]; exact e2.symm, by rw [goK, goK, e2], fun t ht => ?_⟩
    rw [posF, posF, e2]
    by_cases htc : t < c.1
    · rw [if_pos htc, if_pos htc]; grind
    · rw [if_neg htc, if_neg htc]
theorem go_head {a b : Kn} {M N : List Kn} (h1 : Asc (b :: M)) (h2 : Asc (b :: N)) (e : goK b M = goK b N) : goK a (b :: M) = goK a (b :: N) := by
  rw [goK, goK, ← sl0_go M b h1, ← sl0_go N b h2, e]
theorem asc_ins {b : Kn} {M : List Kn} (h : Asc M) (hb : ∀ c ∈ M, b.1 < c.1) : Asc (b :: M) := List.pairwise_cons.mpr ⟨hb, h⟩
theorem go_unique : ∀ (n : Nat) (a : Kn) (M N : List Kn), M.length + N.length ≤ n → Asc (a :: M) → Asc (a :: N) → (∀ k ∈ M, posF a M k.1 = posF a N k.1) → (∀ k ∈ N, posF a M k.1 = posF a N k.1) → goK a M = goK a N
  | _, a, [], [], _, _, _, _, _ => rfl
  | 0, a, b :: M, N, hn, _, _, _, _ => by simp at hn
  | 0, a, [], b :: N, hn, _, _, _, _ => by simp at hn
  | n + 1, a, b :: M, [], hn, hA, hB, p, q => by
    obtain ⟨h1, h2⟩ := List.pairwise_cons.mp hA
    have lab := h1 b (by simp)
    have sb : ∀ t, b.1 ≤ t → posF a (b :: M) t = posF b M t := fun t ht => by rw [posF, if_neg (by grind)]
    have eb : b.2 = posF a [] b.1 := by rw [← p b (by simp), sb _ Rat.le_refl, F_start M h2]
    obtain ⟨i1, i2, i3⟩ := ins_go hB lab (by simp) eb
    have hBb : Asc [b] := asc_ins .nil (by simp)
    have ih := go_unique n b M [] (by simp at hn ⊢; omega) h2 hBb (fun k hk => by
      have lk := (List.pairwise_cons.mp h2).1 k hk
      rw [← sb _ (Rat.le_of_lt lk), p k (List.mem_cons_of_mem _ hk), i3 _ (Rat.le_of_lt lk)]) (fun k hk => by simp at hk)
    have e1 : goK a (b :: M) = goK a [b] := go_head h2 hBb ih
    rw [e1, goK.eq_2 a b [], i1, if_pos rfl, List.nil_append, i2]
  | n + 1, a, [], c :: N, hn, hA, hB, p, q => by
    obtain ⟨h1, h2⟩ := List.pairwise_cons.mp hB
    have lab := h1 c (by simp)
    have sc : ∀ t, c.1 ≤ t → posF a (c :: N) t = posF c N t := fun t ht => by rw [posF, if_neg (by grind)]
    have eb : c.2 = posF a [] c.1 := by rw [q c (by simp), sc _ Rat.le_refl, F_start N h2]
    obtain ⟨i1, i2, i3⟩ := ins_go hA lab (by simp) eb
    have hAb : Asc [c] := asc_ins .nil (by simp)
    have ih := go_unique n c [] N (by simp at hn ⊢; omega) hAb h2 (fun k hk => by simp at hk) (fun k hk => by
      have lk := (List.pairwise_cons.mp h2).1 k hk
      rw [← sc _ (Rat.le_of_lt lk), ← q k (List.mem_cons_of_mem _ hk), i3 _ (Rat.le_of_lt lk)])
    have e1 : goK a [c] = goK a (c :: N) := go_head hAb h2 ih
    rw [← e1, goK.eq_2 a c [], i1, if_pos rfl, List.nil_append, i2]
  | n + 1, a, b :: M, c :: N, hn, hA, hB, p, q => by
    obtain ⟨h1, h2⟩ := List.pairwise_cons.mp hA
    obtain ⟨g1, g2⟩ := List.pairwise_cons.mp hB
    have lab := h1 b (by simp)
    have lac := g1 c (by simp)
    have sb : ∀ t, b.1 ≤ t → posF a (b :: M) t = posF b M t := fun t ht => by rw [posF, if_neg (by grind)]
    have sc : ∀ t, c.1 ≤ t → posF a (c :: N) t = posF c N t := fun t ht => by rw [posF, if_neg (by grind)]
    by_cases h3 : b.1 < c.1
    · have hb : ∀ k ∈ c :: N, b.1 < k.1 := fun k hk => by
        rcases List.mem_cons.mp hk with rfl | hk
        · exact h3
        · have := (List.pairwise_cons.mp g2).1 k hk; grind
      have eb : b.2 = posF a (c :: N) b.1 := by rw [← p b (by simp), sb _ Rat.le_refl, F_start M h2]
      obtain ⟨i1, i2, i3⟩ := ins_go hB lab hb eb
      have hBb : Asc (b :: c :: N) := asc_ins g2 hb
      have ih := go_unique n b M (c :: N) (by simp at hn ⊢; omega) h2 hBb (fun k hk => by
        have lk := (List.pairwise_cons.mp h2).1 k hk
        rw [← sb _ (Rat.le_of_lt lk), p k (List.mem_cons_of_mem _ hk), i3 _ (Rat.le_of_lt lk)]) (fun k hk => by
        have lk := hb k hk
        rw [← sb _ (Rat.le_of_lt lk), q k hk, i3 _ (Rat.le_of_lt lk)])
      have e1 : goK a (b :: M) = goK a (b :: c :: N) := go_head h2 hBb ih
      rw [e1, goK.eq_2 a b (c :: N), i1, if_pos rfl, List.nil_append, i2]
    · by_cases h4 : c.1 < b.1
      · have hb : ∀ k ∈ b :: M, c.1 < k.1 := fun k hk => by
          rcases List.mem_cons.mp hk with rfl | hk
          · exact h4
          · have := (List.pairwise_cons.mp h2).1 k hk; grind
        have eb : c.2 = posF a (b :: M) c.1 := by rw [q c (by simp), sc _ Rat.le_refl, F_start N g2]
        obtain ⟨i1, i2, i3⟩ := ins_go hA lac hb eb
        have hAb : Asc (c :: b :: M) := asc_ins h2 hb
        have ih := go_unique n c (b :: M) N (by simp at hn ⊢; omega) hAb g2 (fun k hk => by
          have lk := hb k hk
          rw [← sc _ (Rat.le_of_lt lk), ← p k hk, i3 _ (Rat.le_of_lt lk)]) (fun k hk => by
          have lk := (List.pairwise_cons.mp g2).1 k hk
          rw [← sc _ (Rat.le_of_lt lk), ← q k (List.mem_cons_of_mem _ hk), i3 _ (Rat.le_of_lt lk)])
        have e1 : goK a (c :: b :: M) = goK a (c :: N) := go_head hAb g2 ih
        rw [← e1, goK.eq_2 a c (b :: M), i1, if_pos rfl, List.nil_append, i2]
      · have e12 : b.1 = c.1 := by grind
        have ebc : b = c := by
          have k1 := p b (by simp)
          rw [sb _ Rat.le_refl, F_start M h2, sc _ (by grind), e12, F_start N g2] at k1
          exact Prod.ext e12 k1
        subst ebc
        have ih := go_unique n b M N (by simp at hn ⊢; omega) h2 g2 (fun k hk => by
          have lk := (List.pairwise_cons.mp h2).1 k hk
          rw [← sb _ (Rat.le_of_lt lk), p k (List.mem_cons_of_mem _ hk), sc _ (Rat.le_of_lt lk)]) (fun k hk => by
          have lk := (List.pairwise_cons.mp g2).1 k hk
          rw [← sb _ (Rat.le_of_lt lk), q k (List.mem_cons_of_mem _ hk), sc _ (Rat.le_of_lt lk)])
        exact go_head h2 g2 ih
/-- the plain knots are equal exactly if the begins are, and the places at all knots of both -/
theorem plain_iff {ks ls : List Kn} {a b : Kn} (hA : Asc ks) (hB : Asc ls) (h0 : ks[0]? = some a) (g0 : ls[0]? = some b) : plainK ks = plainK ls ↔ a.1 = b.1 ∧ ∀ k ∈ ks ++ ls, posAt ks k.1 = posAt ls k.1 := by
  match ks, ls, h0, g0 with
  | a' :: M, b' :: N, h0, g0 =>
    cases h0
    cases g0
    obtain ⟨h1, h2⟩ := List.pairwise_cons.mp hA
    obtain ⟨g1, g2⟩ := List.pairwise_cons.mp hB
    rw [plain_go, plain_go]
    constructor
    · intro e
      obtain ⟨e1, e2⟩ := List.cons.inj e
      subst e1
      refine ⟨rfl, fun k hk => ?_⟩
      have lk : a.1 ≤ k.1 := by
        rcases List.mem_append.mp hk with hk | hk <;> rcases List.mem_cons.mp hk with rfl | hk
        · exact Rat.le_refl
        · exact Rat.le_of_lt (h1 k hk)
        · exact Rat.le_refl
        · exact Rat.le_of_lt (g1 k hk)
      rw [posAt_F M a _ hA lk, posAt_F N a _ hB lk, ← F_go M a _ hA lk, ← F_go N a _ hB lk, e2]
    · rintro ⟨e1, e2⟩
      have eab : a = b := by
        have := e2 a (by simp)
        rw [pos_knot hA (by simp), e1, pos_knot hB (by simp)] at this
        exact Prod.ext e1 this
      subst eab
      congr 1
      refine go_unique _ a M N (Nat.le_refl _) hA hB (fun k hk => ?_) (fun k hk => ?_)
      · have lk := Rat.le_of_lt (h1 k hk)
        rw [← posAt_F M a _ hA lk, ← posAt_F N a _ hB lk]
        exact e2 k (by simp [hk])
      · have lk := Rat.le_of_lt (g1 k hk)
        rw [← posAt_F M a _ hA lk, ← posAt_F N a _ hB lk]
        exact e2 k (by simp [hk])

/-! ## lists that were made here, and are not changed again -/
def rS {α : Type} (A : Rp α) : Rp (List α) := fun K M H v as => ∃ p vs, v = .ref p ∧ ¬ M p ∧ H p = some (.lst vs) ∧ Paired (A K M H) vs as
instance {α : Type} (A : Rp α) [Mono A] : Mono (rS A) := ⟨fun t ⟨p, vs, e, n, h, a⟩ => ⟨p, vs, e, (t _ _ h n).2, (t _ _ h n).1, Prd.monoR (fun _ _ z => Mono.mono t z) a⟩⟩
section
variable {α : Type} {A : Rp α} {K : Fg} {M : Ms} {H : Hp} {x y : V} {as bs : List α} {Q : VK}
theorem rS.l (h : rS A K M H x as) : rL A K M H x as := let ⟨p, vs, e, n, hp, a⟩ := h; ⟨p, vs, e, .inl ⟨n, .inl hp⟩, a⟩
theorem rS.of {H1 : Hp} {D : Addr} {vs : List V} (w : Own M H1) (n : H1 D = none) (e : H D = some (.lst vs)) (p : Paired (A K M H) vs as) : rS A K M H (.ref D) as := ⟨D, vs, rfl, w.fresh n, e, p⟩
theorem s_newS [Mono A] {vs : List V} (w : Own M H) (hl : vs.length ≤ sizeLine) (hp : Paired (A K M H) vs as) (h : ∀ v H', Same H H' → rS A K M H' v as → Q v H') : NewL vs H Q :=
  ⟨hl, fun p n => h _ _ (Same.upd_new n) ⟨p, vs, rfl, w.fresh n, upd_same, Prd.monoR (fun _ _ z => Rp.same (Same.upd_new n) z) hp⟩⟩
theorem s_catS [Mono A] (ha : rS A K M H x as) (hb : rS A K M H y bs) (w : Own M H) (hn : as.length + bs.length < 100000) (h : ∀ v H', Same H H' → rS A K M H' v (as ++ bs) → Q v H') : rAddA K x y H Q := by
  obtain ⟨p, vs, rfl, n1, e1, p1⟩ := ha
  obtain ⟨q, ws, rfl, n2, e2, p2⟩ := hb
  refine .inr (.inl ⟨p, q, vs, ws, rfl, rfl, e1, e2, Nat.le_of_lt (small_line (by rw [Prd.len p1, Prd.len p2]; exact hn)), fun r nr => ?_⟩)
  have s : Same H (upd H r (.lst (vs ++ ws))) := Same.upd_new nr
  exact h _ _ s ⟨r, _, rfl, w.fresh nr, upd_same, Prd.append (Prd.monoR (fun _ _ z => Rp.same s z) p1) (Prd.monoR (fun _ _ z => Rp.same s z) p2)⟩
end
/-! ## for over a list -/
def ForI (K : Fg) (a : Addr) (g : TG) (tb : TS) (D : Ends) (σ : L2.St) (H1 : Hp) : Prop := ∃ W : Nat → Nat → L2.St → Hp → Prop, (∃ m, W 0 m σ H1) ∧ ∀ i m σ H, W i m σ H →
  ((Itl K a).stop i H ∧ D.nx σ H) ∨ ((Itl K a).go i H ∧ ∃ N : L2.St → Hp → Prop, (∀ σ' H', N σ' H' → ∃ m', m' < m ∧ W (i + 1) m' σ' H') ∧ ∀ x H', (Itl K a).yld i H x H' → g x σ H' fun σ2 H2 => tb { D with nx := N, ct := N, bk := D.nx } σ2 H2)
def rLst (K : Fg) (x : V) (H : Hp) (R : Addr → Prop) : Prop := ∃ a, x = .ref a ∧ (∃ xs, SqL K H a xs) ∧ R a
theorem s_forI {K : Fg} {te : TE} {g : TG} {tb : TS} {D : Ends} {σ : L2.St} {H : Hp} (h : te σ H fun x H1 => rLst K x H1 fun a => ForI K a g tb D σ H1) : tFor (iList K te) g tb D σ H := h
theorem forI_by {α : Type} {A : Rp α} [Mono A] {K : Fg} {M : Ms} {x : V} {as : List α} {g : TG} {tb : TS} {D : Ends} {σ : L2.St} {H : Hp} (hx : rL A K M H x as)
    (Pv : Nat → L2.St → Hp → Prop) (h0 : Pv 0 σ H) (hq : ∀ i σ H, Pv i σ H → rL A K M H x as)
    (hs : ∀ (i : Nat) (a : α) (v : V) (σ : L2.St) (H : Hp) (N : L2.St → Hp → Prop), as[i]? = some a → Pv i σ H → A K M H v a → (∀ σ' H', Pv (i + 1) σ' H' → N σ' H') → g v σ H fun σ2 H2 => tb { D with nx := N, ct := N, bk := D.nx } σ2 H2)
    (hd : ∀ σ H, Pv as.length σ H → D.nx σ H) : rLst K x H fun a => ForI K a g tb D σ H := by
  obtain ⟨a, xs, rfl, la, pa⟩ := hx
  refine ⟨a, rfl, ⟨xs, la.sq⟩, ?_⟩
  have W0 : Walk (Itl K a) as.length (fun H => ∃ xs, SqL K H a xs ∧ xs.length = as.length) (fun i H x H' => H' = H ∧ ∀ xs, SqL K H a xs → xs[i]? = some x) :=
    ⟨fun i H hi q => by
      obtain ⟨xs, q, e⟩ := q
      exact ⟨xs, xs[i]'(by omega), q, List.getElem?_eq_getElem (by omega)⟩, fun H q => by
      obtain ⟨xs, q, e⟩ := q
      exact ⟨xs, q, by omega⟩, fun i H x H' _ _ y => y⟩
  refine for_it W0 Pv h0 ?_ ?_ hd
  · intro i σ H _ p
    obtain ⟨_, xs, e, l, pp⟩ := hq i σ H p
    cases e
    exact ⟨xs, l.sq, Prd.len pp⟩
  · rintro i v σ H H' hi p ⟨rfl, y⟩
    obtain ⟨_, xs, e, l, pp⟩ := hq i σ _ p
    cases e
    obtain ⟨b, hb, r⟩ := Prd.getL pp (y _ l.sq)
    exact hs i b v σ _ _ hb p r fun _ _ z => z
/-! ## a comprehension over zip of two lists -/
def LcZ (K : Fg) (vs0 : List V) (g : TG) (tt : TT) (te : TE) (vs : List Nat) (σ : L2.St) (H1 : Hp) (Q : VK) : Prop := ∃ a b xs ys, vs0 = [.ref a, .ref b] ∧ SqL K H1 a xs ∧ SqL K H1 b ys ∧ ∀ D, H1 D = none → ∃ W : Nat → Nat → Hp → Prop, (∃ m, W 0 m (upd H1 D (.lst []))) ∧ ∀ i m H, W i m H →
  ((Itz K a b).stop i H ∧ Q (.ref D) H) ∨ ((Itz K a b).go i H ∧ ∃ Nx : Hp → Prop, (∀ H', Nx H' → ∃ m', m' < m ∧ W (i + 1) m' H') ∧ ∀ x H', (Itz K a b).yld i H x H' → g x (wipe σ vs) H' fun σ2 H2 => wipe σ2 vs = wipe σ vs ∧ tt σ2 H2 fun b H3 =>
    if b = true then te σ2 H3 fun y H4 => ∃ acc, H4 D = some (.lst acc) ∧ acc.length < sizeLine ∧ Nx (upd H4 D (.lst (acc ++ [y]))) else Nx H3)
theorem s_lcZ {K : Fg} {ta : TA} {g : TG} {tt : TT} {te : TE} {vs : List Nat} {σ : L2.St} {H : Hp} {Q : VK} (h : ta σ H fun xs H1 => LcZ K xs g tt te vs σ H1 Q) : tLc (iZip K ta) g tt te vs σ H Q := h
theorem lc_zip {α β γ : Type} {A : Rp α} {B : Rp β} {G : Rp γ} [Mono A] [Mono B] [Mono G] {K : Fg} {M : Ms} {g : TG} {tt : TT} {te : TE} {vs : List Nat} {σ : L2.St} {H1 : Hp} {Q : VK} {x y : V} (as : List α) (bs : List β) (f : α × β → γ)
    (hx : rL A K M H1 x as) (hy : rL B K M H1 y bs) (hl : as.length = bs.length) (w : Own M H1) (hn : as.length < 100000)
    (hs : ∀ (i : Nat) (a : α) (b : β) (v : V) (M' : Ms) (H2 : Hp) (Z : VK) (N : Hp → Prop), as[i]? = some a → bs[i]? = some b → Tr M H1 M' H2 → Own M' H2 → rT2 A B K M' H2 v (a, b) →
      (∀ y H4, Same H2 H4 → G K M' H4 y (f (a, b)) → Z y H4) → LcTurn g tt te vs σ H2 v Z N)
    (h : ∀ v H', Same H1 H' → rS G K M H' v ((as.zip bs).map f) → Q v H') : LcZ K [x, y] g tt te vs σ H1 Q := by
  obtain ⟨a, xs, rfl, la, pa⟩ := hx
  obtain ⟨b, ys, rfl, lb, pb⟩ := hy
  have e1 := Prd.len pa
  have e2 := Prd.len pb
  refine ⟨a, b, xs, ys, rfl, la.sq, lb.sq, fun D hD => ?_⟩
  refine lc_it (walk_zip (n := as.length) (xs := xs) (ys := ys) (by omega)) (fun i H => ∃ acc, H D = some (.lst acc) ∧ Same H1 H ∧ Paired (G K (mIn M D) H) acc (((as.zip bs).take i).map f)) ?_ ?_ ?_ ?_
  · exact ⟨[], upd_same, Same.upd_new hD, .nil⟩
  · rintro i H _ ⟨acc, e, s, _⟩
    exact ⟨(la.mono (Tr.inside s hD) : LstM K (mIn M D) H a xs).sq, (lb.mono (Tr.inside s hD) : LstM K (mIn M D) H b ys).sq⟩
  · rintro i v H H' hi ⟨acc, e, s, p⟩ ⟨T, u1, u2, rfl, hT, rfl, f1, f2⟩
    obtain ⟨c1, h1, r1⟩ := Prd.getL pa f1
    obtain ⟨c2, h2, r2⟩ := Prd.getL pb f2
    have sT : Same H (upd H T (.tup [u1, u2])) := Same.upd_new hT
    have s2 := Same.trans s sT
    have eD : (upd H T (.tup [u1, u2])) D = some (.lst acc) := sT _ _ e
    have ow2 : Own (mIn M D) (upd H T (.tup [u1, u2])) := w.inside s2 eD
    have nT : ¬ (mIn M D) T := fun m => (w.inside s e) T m hT
    have hz : (as.zip bs)[i]? = some (c1, c2) := by rw [List.getElem?_zip_eq_some]; exact ⟨h1, h2⟩
    have et : ((as.zip bs).take (i + 1)) = (as.zip bs).take i ++ [(c1, c2)] := by
      rw [List.take_succ, hz]
      rfl
    refine hs i c1 c2 _ (mIn M D) _ _ _ h1 h2 (Tr.inside s2 hD) ow2 ⟨T, u1, u2, rfl, .inl ⟨nT, upd_same⟩, Mono.mono (Tr.inside s2 hD) r1, Mono.mono (Tr.inside s2 hD) r2⟩ fun y H4 s4 hy => ?_
    have la2 : acc.length < sizeLine := small_line (by
      rw [Prd.len p, List.length_map]
      have := List.length_take_le i (as.zip bs)
      omega)
    refine ⟨acc, s4 _ _ eD, la2, acc ++ [y], upd_same, Same.into (Same.trans s2 s4) hD, ?_⟩
    rw [et, List.map_append]
    exact Prd.snoc (Mono.mono Tr.updM hy) (Prd.monoR (fun _ _ z => Mono.mono Tr.updM (Rp.same s4 (Rp.same sT z))) p)
  · rintro H ⟨acc, e, s, p⟩
    rw [List.take_of_length_le (by rw [List.length_zip]; omega)] at p
    exact h _ _ s (rS.of w hD e (Prd.monoR (fun _ _ z => Mono.mono Tr.outside z) p))
/-! ## sizes of ways -/
theorem way_bq2 {B k m : Nat} {a z : Rat} {xs : List Rat} (h : ∀ x, x ∈ xs → BD B x) (hn : xs.length * (B + B) < 65536) (hB : B < 65536) (ha : BQ k a) (hz : BQ k z) (hm : 2 * k + 364 ≤ m) (i : Nat) : BQ m (wayK ((a :: (xs ++ [z])).take i)) := by
  match i with
  | 0 => exact (bq_zero 0).mono (by omega)
  | 1 => exact (bq_zero 0).mono (by omega)
  | i + 2 =>
    cases xs with
    | nil =>
      show BQ m (wayK (a :: z :: ([].take i)))
      rw [List.take_nil]
      show BQ m (absQ (z - a) + 0)
      rw [Rat.add_zero]
      exact (absQ_bq (hz.sub ha)).mono (by omega)
    | cons b r =>
      show BQ m (absQ (b - a) + wayK (((b :: r) ++ [z]).take (i + 1)))
      have h1 := way_bq (m := k + 242) h hn hB hz (by omega) (i + 1)
      have h2 := absQ_bq (((h b (by simp)).bq hB).sub ha)
      exact (h2.add h1).mono (by omega)

/-! ## for over enumerate(list) -/
theorem piEnumK {X : Cx} {e : Expr} {ta : TA} {p pos tpos : Pos} {elts : List Expr} {kk : Nat} (K : Fg) (hg : Gl X "enumerate") (hm : X.mg "enumerate" = none) (ha : PA X [e] ta) (hs : starEach [e] X.env = [(false, eval e X.env)] := by rfl) (h : X.K = K := by rfl) :
    PI X (.Tuple elts kk tpos) (.Call (.Name "enumerate" p) [e] [] pos) (iEnum K ta) := by subst h; exact pi_enum hg hm ha hs
def ForE (K : Fg) (a : Addr) (g : TG) (tb : TS) (D : Ends) (σ : L2.St) (H1 : Hp) : Prop := ∃ W : Nat → Nat → L2.St → Hp → Prop, (∃ m, W 0 m σ H1) ∧ ∀ i m σ H, W i m σ H →
  ((Ite K a).stop i H ∧ D.nx σ H) ∨ ((Ite K a).go i H ∧ ∃ N : L2.St → Hp → Prop, (∀ σ' H', N σ' H' → ∃ m', m' < m ∧ W (i + 1) m' σ' H') ∧ ∀ x H', (Ite K a).yld i H x H' → g x σ H' fun σ2 H2 => tb { D with nx := N, ct := N, bk := D.nx } σ2 H2)
def rEnu (K : Fg) (vs : List V) (H : Hp) (R : Addr → Prop) : Prop := ∃ a xs, vs = [.ref a] ∧ SqL K H a xs ∧ R a
theorem s_forE {K : Fg} {ta : TA} {g : TG} {tb : TS} {D : Ends} {σ : L2.St} {H : Hp} (h : ta σ H fun vs H1 => rEnu K vs H1 fun a => ForE K a g tb D σ H1) : tFor (iEnum K ta) g tb D σ H := h
theorem forE_by {α : Type} {A : Rp α} [Mono A] {K : Fg} {M : Ms} {x : V} {as : List α} {g : TG} {tb : TS} {D : Ends} {σ : L2.St} {H : Hp} (hx : rL A K M H x as)
    (Pv : Nat → L2.St → Hp → Prop) (h0 : Pv 0 σ H) (hq : ∀ i σ H, Pv i σ H → rL A K M H x as ∧ Own M H)
    (hs : ∀ (i : Nat) (a : α) (v : V) (σ : L2.St) (H H' : Hp) (N : L2.St → Hp → Prop), as[i]? = some a → Pv i σ H → Same H H' → Own M H' → rT2 rInt A K M H' v ((i : Int), a) → (∀ σ' H', Pv (i + 1) σ' H' → N σ' H') → g v σ H' fun σ2 H2 => tb { D with nx := N, ct := N, bk := D.nx } σ2 H2)
    (hd : ∀ σ H, Pv as.length σ H → D.nx σ H) : rEnu K [x] H fun a => ForE K a g tb D σ H := by
  obtain ⟨a, xs, rfl, la, pa⟩ := hx
  refine ⟨a, xs, rfl, la.sq, ?_⟩
  refine ⟨fun i m σ H => m = as.length - i ∧ i ≤ as.length ∧ Pv i σ H, ⟨as.length, by simp, Nat.zero_le _, h0⟩, ?_⟩
  rintro i m σ H ⟨rfl, hi, p⟩
  obtain ⟨⟨_, xs', e, l, pp⟩, w⟩ := hq i σ H p
  cases e
  have el := Prd.len pp
  by_cases hlt : i < as.length
  · refine .inr ⟨⟨xs', xs'[i]'(by omega), l.sq, List.getElem?_eq_getElem (by omega)⟩, Pv (i + 1), fun σ' H' p' => ⟨as.length - (i + 1), by omega, rfl, hlt, p'⟩, fun v H' y => ?_⟩
    obtain ⟨T, x', rfl, hT, rfl, f1⟩ := y
    obtain ⟨b, hb, r⟩ := Prd.getL pp (f1 _ l.sq)
    have s : Same H (upd H T (.tup [.int (i : Nat), x'])) := Same.upd_new hT
    exact hs i b _ σ H _ _ hb p s (w.same s) ⟨T, _, x', rfl, .inl ⟨w.fresh hT, upd_same⟩, rfl, Rp.same s r⟩ fun _ _ z => z
  · have e : i = as.length := by omega
    subst e
    exact .inl ⟨⟨xs', l.sq, by omega⟩, hd σ H p⟩
/-! ## a list that grows: at r, in the world mIn M r -/
def Bl {α : Type} (A : Rp α) (K : Fg) (M : Ms) (r : Addr) (H : Hp) (as : List α) : Prop := ∃ vs, H r = some (.lst vs) ∧ Paired (A K (mIn M r) H) vs as
section
variable {α : Type} {A : Rp α} [Mono A] {K : Fg} {M : Ms} {r : Addr} {H H' : Hp} {as : List α} {Q : VK}
theorem Bl.same (s : Same H H') (h : Bl A K M r H as) : Bl A K M r H' as := let ⟨vs, e, p⟩ := h; ⟨vs, s _ _ e, Prd.monoR (fun _ _ z => Rp.same s z) p⟩
theorem Bl.but {d l : Addr} (b : But d l H H') (rd : r ≠ d) (rl : r ≠ l) (md : M d) (ml : M l) (h : Bl A K M r H as) : Bl A K M r H' as := let ⟨vs, e, p⟩ := h; ⟨vs, b.kp _ _ e rd rl, Prd.monoR (fun _ _ z => Rp.but b (.inl md) (.inl ml) z) p⟩
theorem Bl.new {H0 : Hp} (n : H0 r = none) : Bl A K M r (upd H0 r (.lst [])) [] := ⟨[], upd_same, .nil⟩
/-- r.append(w) -/
theorem s_push {w : V} {a : α} {R : Hp → Prop} (h : Bl A K M r H as) (hw : A K (mIn M r) H w a) (ow : Own (mIn M r) H) (hn : as.length < 99999) (k : ∀ H', (∀ b o, H b = some o → b ≠ r → H' b = some o) → Tr (mIn M r) H (mIn M r) H' → Own (mIn M r) H' → Bl A K M r H' (as ++ [a]) → R H') :
    ∃ (p : Addr) (xs : List V) (y : V), V.ref r = .ref p ∧ [w] = [y] ∧ H p = some (.lst xs) ∧ xs.length < sizeLine ∧ R (upd H p (.lst (xs ++ [y]))) := by
  obtain ⟨vs, e, p⟩ := h
  refine ⟨r, vs, w, rfl, rfl, e, small_line (by rw [Prd.len p]; omega), ?_⟩
  refine k _ (fun b o q n => by rw [upd_ne n]; exact q) Tr.updM ow.updM ⟨_, upd_same, Prd.append (Prd.monoR (fun _ _ z => Mono.mono Tr.updM z) p) (.cons (Mono.mono Tr.updM hw) .nil)⟩
theorem s_tyB (h : Bl A K M r H as) : tyV K "list" (.ref r) H := let ⟨vs, e, _⟩ := h; .inl ⟨rfl, _, SqL.of e⟩
theorem s_ixB {i : Int} {j : Nat} {a : α} (h : Bl A K M r H as) (hj : as[j]? = some a) (e : ixN as.length i = some j) (k : ∀ y, A K (mIn M r) H y a → Q y H) : rIx K (.ref r) (.int i) H Q := by
  obtain ⟨vs, e1, p⟩ := h
  obtain ⟨y, e2, e3⟩ := Prd.get p hj
  exact .inl ⟨r, vs, i, y, rfl, rfl, SqL.of e1, by unfold atI; rw [Prd.len p, e]; exact e2, k y e3⟩
theorem s_lenB (h : Bl A K M r H as) (k : Q (.int as.length) H) : rLen K [.ref r] H Q := by
  obtain ⟨vs, e1, p⟩ := h
  exact ⟨_, vs.length, rfl, .inl ⟨vs, SqL.of e1, rfl⟩, by rw [Prd.len p]; exact k⟩
theorem Bl.done (h : Bl A K M r H as) (n : ¬ M r) : rS A K M H (.ref r) as := let ⟨vs, e, p⟩ := h; ⟨r, vs, rfl, n, e, Prd.monoR (fun _ _ z => Mono.mono Tr.outside z) p⟩
/-- a fact of the world M is one of the world within -/
theorem Rp.inw {β : Type} {B : Rp β} [i : Mono B] {v : V} {b : β} {D : Addr} {H1 : Hp} (n : H1 D = none) (s : Same H1 H) (h : B K M H1 v b) : B K (mIn M D) H v b := i.mono (Tr.inside s n) h
end
theorem DrawAt.kept {H H' : Hp} {d r : Addr} {l : LI} {N : Nat} (k : ∀ b o, H b = some o → b ≠ r → H' b = some o) (rd : r ≠ d) (rl : r ≠ l.1) (ri : r ≠ l.2) (h : DrawAt H d l N) : DrawAt H' d l N := by
  obtain ⟨xs, ls, x, t, h1, h2, h3, z⟩ := h.ex
  exact ⟨xs, ls, x, t, k _ _ h1 rd.symm, k _ _ h2 rl.symm, k _ _ h3 ri.symm, z⟩
theorem But.kept {H0 H H' : Hp} {d l r : Addr} (k : ∀ b o, H b = some o → b ≠ r → H' b = some o) (n : H0 r = none) (rd : r ≠ d) (rl : r ≠ l) (b : But d l H0 H) : But d l H0 H' := by
  refine ⟨fun c o e h1 h2 => k _ _ (b.kp c o e h1 h2) (ne_of_none e n), ?_, ?_⟩
  · cases q : H d with
    | none => exact absurd q b.dd
    | some o => rw [k _ _ q rd.symm]; simp
  · cases q : H l with
    | none => exact absurd q b.ll
    | some o => rw [k _ _ q rl.symm]; simp

/-! ## == and != of an own object with a value of another type -/
section
variable {pr : Program} {wd : World} {Ar : Around} {Ex : Value → Shared → Prop} {hp : Heap} {gs : Array GenState} {dr : Drawn} {tk : Nat} {os : OsState} {c p fn : Addr} {bn : String} {mm : List Value} {v tv : Value}
theorem ne_entry (Z : hp.OwnEqNoNe p c fn bn mm) (room : Ar.units < cLine) {R : Fin → Shared → Prop}
    (k : wpAny (model pr wd) Ar (call (.ref fn) [.ref p, v]) (fun u s1 => ∃ z, u = .bool z ∧ R (.done (.ret (.bool (!z)))) s1) Ex ⟨hp, gs, dr, tk, os⟩) :
    wpAny (model pr wd) Ar (Builtin.«object.__ne__» ⟨[.ref p, v], []⟩) R Ex ⟨hp, gs, dr, tk, os⟩ := by
  have inner : wpAny (model pr wd) Ar (callSpecialIfBound? (.ref p) (Str.ofString "__eq__") [v]) (fun o s1 => ∃ z, o = some (.bool z) ∧ R (.done (.ret (.bool (!z)))) s1) Ex ⟨hp, gs, dr, tk, os⟩ := by
    refine wpAny_callSpecialIfBound?_own Z.ownEq (wpAny_mono k (fun u s1 hu => ?_) fun _ _ e => e)
    obtain ⟨z, rfl, hz⟩ := hu
    exact ⟨z, rfl, hz⟩
  unfold Builtin.«object.__ne__»
  repeat (first
    | with_reducible refine wpAny_cRoomFor room ?_
    | (refine wpAny_bind (wpAny_mono inner (fun o s1 ho => ?_) fun _ _ e => e); obtain ⟨z, rfl, hz⟩ := ho)
    | exact hz
    | exact wpAny_pure hz
    | exact wpAny_truthy_bool hz
    | (refine wpAny_bind (m := truthy (.bool _)) (wpAny_truthy_bool ?_))
    | wp_step)
theorem ne_try (FB : CmpFacts bn mm) (Z : hp.OwnEqNoNe p c fn bn mm) (room : Ar.units + 1 < cLine) {R : Option Value → Shared → Prop}
    (k : wpAny (model pr wd) Ar.in1 (call (.ref fn) [.ref p, v]) (fun u s1 => ∃ z, u = .bool z ∧ R (some (.bool (!z))) s1) Ex ⟨hp, gs, dr, tk, os⟩) :
    wpAny (model pr wd) Ar (tryCompare (.ref p) "__ne__" v) R Ex ⟨hp, gs, dr, tk, os⟩ := by
  obtain ⟨o1, o2, n1, n2, N1, b1, h1, s1, s2, a1, c1, d1, j0, j1, j2, j3, j5, nid, m1, y1, e1, e2, e3, e4, _, _, _, _, _, e5⟩ := id Z
  have inner := ne_entry (Ar := Ar.in1) (v := v) (gs := gs) (dr := dr) (tk := tk) (os := os) (Ex := Ex) (R := fun r s' => ∃ z, r = .done (.ret (.bool z)) ∧ R (some (.bool z)) s') Z room
    (wpAny_mono k (fun u s' hu => by
      obtain ⟨z, rfl, hz⟩ := hu
      exact ⟨z, rfl, _, rfl, hz⟩) fun _ _ e => e)
  unfold tryCompare
  refine wpAny_bind (wpAny_callSpecialIfBound?_inst e1 e2 e3 e4 e5 FB.mro FB.ne (wpAny_call (codeAny_call_builtin FB.ne.plain F.cmpEntry_ne
    (wpAny_check_slot_inst F.cmpKind_ne F.cmpSplit_ne (F.cmpArgs_ne _ _) FB.hasObject e1 e2 e3 (wpAny_mono inner (fun r s' hr => ?_) fun _ _ e => e)))))
  obtain ⟨z, rfl, hz⟩ := hr
  exact wpAny_pure hz
theorem ne_cmp (FB : CmpFacts bn mm) (Z : hp.OwnEqNoNe p c fn bn mm) (room : Ar.units + 1 < cLine) (hv : PySem.W.Looks (model pr wd) hp (typeOf v) tv) (hs : PySem.W.Looks (model pr wd) hp (isSubtype tv (.ref c)) false) (nt : (Value.ref c != tv) = true) {R : Value → Shared → Prop}
    (k : wpAny (model pr wd) Ar.in1 (call (.ref fn) [.ref p, v]) (fun u s1 => ∃ z, u = .bool z ∧ R (.bool (!z)) s1) Ex ⟨hp, gs, dr, tk, os⟩) :
    wpAny (model pr wd) Ar (compareOp .NotEq (.ref p) v) R Ex ⟨hp, gs, dr, tk, os⟩ := by
  obtain ⟨o1, o2, n1, n2, N1, b1, h1, s1, s2, a1, c1, d1, j0, j1, j2, j3, j5, nid, m1, y1, e1, e2, _⟩ := id Z
  have inner := ne_try (v := v) (gs := gs) (dr := dr) (tk := tk) (os := os) (Ex := Ex) (R := fun r s' => ∃ z, r = some (.bool z) ∧ R (.bool z) s') FB Z room
    (wpAny_mono k (fun u s' hu => by
      obtain ⟨z, rfl, hz⟩ := hu
      exact ⟨z, rfl, _, rfl, hz⟩) fun _ _ e => e)
  show wpAny _ _ (richCompare .NotEq (.ref p) v) _ _ _
  unfold richCompare
  simp only [oneThing_ref]
  refine wpAny_holding (wpAny_bind (wpAny_cRoomFor (Nat.lt_of_succ_lt room) ?_))
  rw [cmpInfo_NotEq]
  dsimp only
  refine wpAny_bind (wpAny_typeOf_ref e1 ?_)
  rw [e2]
  refine wpAny_bind (hv.here ?_)
  rw [nt, if_pos rfl]
  refine wpAny_bind (hs.here ?_)
  simp only [Bool.false_eq_true, if_false]
  refine wpAny_bind (wpAny_mono inner (fun r s' hr => ?_) fun _ _ e => e)
  obtain ⟨z, rfl, hz⟩ := hr
  exact wpAny_pure hz
end
/-! ### by what is known of the values -/
/-- a value whose type is none of the class's -/
def Other (K : Fg) (C : Addr) (H : Hp) (y : V) : Prop := ∃ t : Value, TyX K H y t ∧ PySem.W.subIn K t (.ref C) = some false ∧ (Value.ref C != t) = true
def rEqV (K : Fg) (C : Addr) (sp : Sp) : R2 := fun x y H Q => ∃ a dx fs, x = .ref a ∧ H a = some (.ins C dx fs) ∧ Other K C H y ∧ sp [.ref a, y] H (fun v H' => ∃ r, v = .bl r ∧ Q (.bl r) H') E0
def rNeV (K : Fg) (C : Addr) (sp : Sp) : R2 := fun x y H Q => ∃ a dx fs, x = .ref a ∧ H a = some (.ins C dx fs) ∧ Other K C H y ∧ sp [.ref a, y] H (fun v H' => ∃ r, v = .bl r ∧ Q (.bl (!r)) H') E0
theorem op_eqV {X : Cx} {k : Nat} {C : Addr} {ps : List Str} {sp : Sp} (G : CalE X.prog X.w X.K X.mg X.base k C ps sp) (hr : Room k X.A) : OpR X (compareOp .Eq) (rEqV X.K C sp) := by
  obtain ⟨f, fd, F, hs, hf, hb⟩ := G.ex
  intro pins s σ H x y u v Q I rx ry d
  obtain ⟨a, dx, fs, rfl, ha, ⟨t, ty, ht, hn⟩, hsp⟩ := d
  cases rx
  obtain ⟨mA, J, _⟩ := ins_get I.hok ha
  obtain ⟨od, J, _⟩ := J.look
  obtain ⟨Pt, Zt, pt, _⟩ := kit_of I ry ty
  obtain ⟨m, hF⟩ := I.fr
  show wpAny _ _ (richCompare .Eq (.ref a) v) _ _ _
  refine PySem.W.cmp_K (op := .Eq) (tb := t) hr.units0 hF I.ok.mod.kin J (Zt.ty _ _ I.kIn pt) (by unfold PySem.W.notFirst; rw [ht]; simp) hs hf ?_
  have hl := F.len _ _ _ _ hsp
  have r2 : Vals [V.ref a, y] [Value.ref a, v] := .cons rfl (.cons ry .nil)
  refine wpAny_call (codeAny_mono (F.run X.A X.stack s H ⟨[.ref a, v], []⟩ [.ref a, v] [.ref a, y] _ E0 hr I.env0 (by
    have := hb s [.ref a, v] I.kIn (by simpa using hl)
    simpa using this) r2 hsp) fun r s' hq => ?_)
  cases r with
  | error e => exact hq.elim
  | ok fl =>
    cases fl with
    | ret w =>
      obtain ⟨z, H', I', rz, r, ez, ex⟩ := I.after hq
      subst ez
      cases rz
      exact ⟨.bl r, H', I', rfl, ex⟩
    | next => exact False.elim hq
    | brk => exact False.elim hq
    | cont => exact False.elim hq
theorem op_neV {X : Cx} {k : Nat} {C : Addr} {ps : List Str} {sp : Sp} (G : CalN X.prog X.w X.K X.mg X.base k C ps sp) (hr : Room (k + 1) X.A) : OpR X (compareOp .NotEq) (rNeV X.K C sp) := by
  obtain ⟨f, fd, F, hn, hb⟩ := G.ex
  intro pins s σ H x y u v Q I rx ry d
  obtain ⟨a, dx, fs, rfl, ha, ⟨t, ty, ht, hne⟩, hsp⟩ := d
  cases rx
  obtain ⟨mA, J, _⟩ := ins_get I.hok ha
  obtain ⟨od, J, _⟩ := J.look
  obtain ⟨Pt, Zt, pt, _⟩ := kit_of I ry ty
  have hl := F.len _ _ _ _ hsp
  have r2 : Vals [V.ref a, y] [Value.ref a, v] := .cons rfl (.cons ry .nil)
  have hu : X.A.units + 1 < cLine := hu_of hr
  have X1 : X.K.In s.heap := I.kIn
  have lt := Zt.ty (model X.prog X.w) s.heap X1 pt
  have ls : PySem.W.Looks (model X.prog X.w) s.heap (isSubtype t (.ref C)) false := PySem.W.looks_subIn X1 ht
  have main : wpAny (model X.prog X.w) X.A.in1 (call (.ref f) [.ref a, v]) (fun r s' => ∃ c, r = .bool c ∧ EP X pins σ Q (.bool (!c)) s') X.xe s := by
    refine wpAny_call (codeAny_mono (F.run X.A.in1 X.stack s H ⟨[.ref a, v], []⟩ [.ref a, v] [.ref a, y] _ E0 hr.in1 I.env0.in1 (by
      have := hb s [.ref a, v] I.kIn (by simpa using hl)
      simpa using this) r2 hsp) fun r s' hq => ?_)
    cases r with
    | error e => exact hq.elim
    | ok fl =>
      cases fl with
      | ret w =>
        obtain ⟨z, H', I', rz, r, ez, ex⟩ := I.after hq
        subst ez
        cases rz
        exact ⟨r, rfl, .bl (!r), H', I', rfl, ex⟩
      | next => exact False.elim hq
      | brk => exact False.elim hq
      | cont => exact False.elim hq
  obtain ⟨hp, g, dr, tk, os⟩ := s
  exact ne_cmp PySem.F.cmp_object (hn.at X1 J.1 J.cls) hu lt ls hne main

/-! ## == and != of Timetables with any value -/
structure OtC (K : Fg) (C : Addr) : Prop where
  ic : PySem.W.isClsIn K C = true
  ty : PySem.W.typeIn K (.ref C) = some (.type "type")
def NotTt (K : Fg) (C : Addr) (H : Hp) (y : V) : Prop := ∃ t : Value, TyX K H y t ∧ PySem.W.kitOne K t (.ref C) = some false ∧ PySem.W.subIn K t (.ref C) = some false ∧ (Value.ref C != t) = true
section
variable {K : Fg} {C : Addr} {H : Hp} {y x : V} {M : Ms} {Q : VK} {ks ls : List Kn}
theorem NotTt.of {n : String} (o : OtC K C) (ty : TyX K H y (.type n)) (hs : PySem.W.subIn K (.type n) (.ref C) = some false) : NotTt K C H y := by
  refine ⟨_, ty, ?_, hs, by rfl⟩
  have h5 : (PySem.W.clsIn K C).isSome = true := o.ic
  unfold PySem.W.kitOne PySem.W.kitCls
  rw [if_neg (by intro z; cases z)]
  simp [o.ty, h5, hs]
theorem sub_of {n : String} {m : List Value} (e : fastBuiltinMro n = some m) (h : m.contains (.ref C) = false) : PySem.W.subIn K (.type n) (.ref C) = some false := by
  show (fastBuiltinMro n).map (·.contains (.ref C)) = some false
  rw [e]
  simp only [Option.map_some, h]
theorem not_list (o : OtC K C) (ty : TyX K H y (.type "list")) : NotTt K C H y := .of o ty (sub_of (m := [.type "list", .type "object"]) (by decide +kernel) (by first | rfl | simp))
theorem not_tuple (o : OtC K C) (ty : TyX K H y (.type "tuple")) : NotTt K C H y := .of o ty (sub_of (m := [.type "tuple", .type "object"]) (by decide +kernel) (by first | rfl | simp))
theorem not_dict (o : OtC K C) (ty : TyX K H y (.type "dict")) : NotTt K C H y := .of o ty (sub_of (m := [.type "dict", .type "object"]) (by decide +kernel) (by first | rfl | simp))
theorem not_int {i : Int} (o : OtC K C) : NotTt K C H (.int i) := .of o (.base (.int i)) (sub_of (m := [.type "int", .type "object"]) (by decide +kernel) (by first | rfl | simp))
theorem not_str {i : Str} (o : OtC K C) : NotTt K C H (.str i) := .of o (.base (.str i)) (sub_of (m := [.type "str", .type "object"]) (by decide +kernel) (by first | rfl | simp))
theorem not_non (o : OtC K C) : NotTt K C H .non := .of o (.base .non) (sub_of (m := [.type "NoneType", .type "object"]) (by decide +kernel) (by first | rfl | simp))
def sp_teqV (C : Addr) (K : Fg) : Sp := fun vs H Q _ => ∃ (M : Ms) (x y : V) (ks : List Kn), vs = [x, y] ∧ rTt C K M H x ks ∧ ((∃ ls, rTt C K M H y ls ∧ Own M H ∧ ∀ H', Same H H' → Q (.bl (decide (plainK ks = plainK ls))) H') ∨ (NotTt K C H y ∧ Q (.bl false) H))
theorem s_isiNot (h : NotTt K C H y) (q : Q (.bl false) H) : rIsi K [y, .ref C] H Q := let ⟨t, ty, k, _, _⟩ := h; ⟨_, _, _, _, false, rfl, .own C, ty, k, q⟩
def rEqW (K : Fg) (C : Addr) : R2 := fun x y H Q => rEqA K x y H Q ∨ (rEqT C (sp_teqV C K) x y H Q ∨ rEqV K C (sp_teqV C K) x y H Q)
def rNeW (K : Fg) (C : Addr) : R2 := fun x y H Q => rNeA K x y H Q ∨ (rNeT C (sp_teqV C K) x y H Q ∨ rNeV K C (sp_teqV C K) x y H Q)
theorem opEqW {X : Cx} {k : Nat} {C : Addr} {ps : List Str} (K : Fg) (G : CalE X.prog X.w X.K X.mg X.base k C ps (sp_teqV C K)) (hr : Room k X.A) (hu : X.A.units + 64 < cLine) (h : X.K = K := by rfl) : OpR X (compareOp .Eq) (rEqW K C) := by
  subst h
  exact (opEqK _ hu).or ((op_eqT G hr).or (op_eqV G hr))
theorem opNeW {X : Cx} {k : Nat} {C : Addr} {ps : List Str} (K : Fg) (G : CalN X.prog X.w X.K X.mg X.base k C ps (sp_teqV C K)) (hr : Room (k + 1) X.A) (hu : X.A.units + 64 < cLine) (h : X.K = K := by rfl) : OpR X (compareOp .NotEq) (rNeW K C) := by
  subst h
  exact (opNeK _ hu).or ((op_neT G hr).or (op_neV G hr))
theorem s_eqWl (h : rEqA K x y H Q) : rEqW K C x y H Q := .inl h
theorem s_neWl (h : rNeA K x y H Q) : rNeW K C x y H Q := .inl h
theorem s_eqWr (h1 : rTt C K M H x ks) (h2 : rTt C K M H y ls) (ow : Own M H) (q : ∀ H', Same H H' → Q (.bl (decide (plainK ks = plainK ls))) H') : rEqW K C x y H Q := by
  obtain ⟨p, dx, lk, lp, rfl, n, e, a⟩ := id h1
  obtain ⟨p', dx', lk', lp', rfl, n', e', a'⟩ := id h2
  exact .inr (.inl ⟨p, p', dx, dx', _, _, rfl, rfl, e, e', M, _, _, ks, rfl, h1, .inl ⟨ls, h2, ow, fun H' s => ⟨_, rfl, q H' s⟩⟩⟩)
theorem s_neWr (h1 : rTt C K M H x ks) (h2 : rTt C K M H y ls) (ow : Own M H) (q : ∀ H', Same H H' → Q (.bl (!decide (plainK ks = plainK ls))) H') : rNeW K C x y H Q := by
  obtain ⟨p, dx, lk, lp, rfl, n, e, a⟩ := id h1
  obtain ⟨p', dx', lk', lp', rfl, n', e', a'⟩ := id h2
  exact .inr (.inl ⟨p, p', dx, dx', _, _, rfl, rfl, e, e', M, _, _, ks, rfl, h1, .inl ⟨ls, h2, ow, fun H' s => ⟨_, rfl, q H' s⟩⟩⟩)
theorem NotTt.other (h : NotTt K C H y) : Other K C H y := let ⟨t, ty, _, s, n⟩ := h; ⟨t, ty, s, n⟩
theorem s_eqWn (h1 : rTt C K M H x ks) (h2 : NotTt K C H y) (q : Q (.bl false) H) : rEqW K C x y H Q := by
  obtain ⟨p, dx, lk, lp, rfl, n, e, a⟩ := id h1
  exact .inr (.inr ⟨p, dx, _, rfl, e, h2.other, M, _, _, ks, rfl, h1, .inr ⟨h2, _, rfl, q⟩⟩)
theorem s_neWn (h1 : rTt C K M H x ks) (h2 : NotTt K C H y) (q : Q (.bl true) H) : rNeW K C x y H Q := by
  obtain ⟨p, dx, lk, lp, rfl, n, e, a⟩ := id h1
  exact .inr (.inr ⟨p, dx, _, rfl, e, h2.other, M, _, _, ks, rfl, h1, .inr ⟨h2, _, rfl, q⟩⟩)
end
/-! ## a for over a tuple of any values; tuple(a list) -/
theorem piTupK {X : Cx} {tg e : Expr} {te : TE} (K : Fg) (he : PE X e te) (h : X.K = K := by rfl) : PI X tg e (iTup K te) := by subst h; exact pi_tup he
def rTupC (K : Fg) : List V → Hp → VK → Prop := fun xs H Q => ∃ p ys, xs = [.ref p] ∧ ((SqL K H p ys ∧ ∀ l, H l = none → Q (.ref l) (upd H l (.tup ys))) ∨ (SqT K H p ys ∧ Q (.ref p) H))
theorem callTupC {X : Cx} (K : Fg) (h : X.K = K := by rfl) : CallR X (.type "tuple") (rTupC K) := by subst h; exact call_tuple_of
def ForT (K : Fg) (a : Addr) (g : TG) (tb : TS) (D : Ends) (σ : L2.St) (H1 : Hp) : Prop := ∃ W : Nat → Nat → L2.St → Hp → Prop, (∃ m, W 0 m σ H1) ∧ ∀ i m σ H, W i m σ H →
  ((Itt K a).stop i H ∧ D.nx σ H) ∨ ((Itt K a).go i H ∧ ∃ N : L2.St → Hp → Prop, (∀ σ' H', N σ' H' → ∃ m', m' < m ∧ W (i + 1) m' σ' H') ∧ ∀ x H', (Itt K a).yld i H x H' → g x σ H' fun σ2 H2 => tb { D with nx := N, ct := N, bk := D.nx } σ2 H2)
def rTpl (K : Fg) (x : V) (H : Hp) (R : Addr → Prop) : Prop := ∃ a, x = .ref a ∧ (∃ xs, SqT K H a xs) ∧ R a
theorem s_forT {K : Fg} {te : TE} {g : TG} {tb : TS} {D : Ends} {σ : L2.St} {H : Hp} (h : te σ H fun x H1 => rTpl K x H1 fun a => ForT K a g tb D σ H1) : tFor (iTup K te) g tb D σ H := h
theorem forT_by {K : Fg} {a : Addr} {xs : List V} {g : TG} {tb : TS} {D : Ends} {σ : L2.St} {H : Hp}
    (Pv : Nat → L2.St → Hp → Prop) (h0 : Pv 0 σ H) (hq : ∀ i σ H, Pv i σ H → SqT K H a xs)
    (hs : ∀ (i : Nat) (v : V) (σ : L2.St) (H : Hp) (N : L2.St → Hp → Prop), xs[i]? = some v → Pv i σ H → (∀ σ' H', Pv (i + 1) σ' H' → N σ' H') → g v σ H fun σ2 H2 => tb { D with nx := N, ct := N, bk := D.nx } σ2 H2)
    (hd : ∀ σ H, Pv xs.length σ H → D.nx σ H) : rTpl K (.ref a) H fun a => ForT K a g tb D σ H := by
  refine ⟨a, rfl, ⟨xs, hq _ _ _ h0⟩, ?_⟩
  have W0 : Walk (Itt K a) xs.length (fun H => SqT K H a xs) (fun i H x H' => H' = H ∧ ∀ ys, SqT K H a ys → ys[i]? = some x) :=
    ⟨fun i H hi q => ⟨xs, xs[i]'(by omega), q, List.getElem?_eq_getElem (by omega)⟩, fun H q => ⟨xs, q, Nat.le_refl _⟩, fun i H x H' _ _ y => y⟩
  refine for_it W0 Pv h0 ?_ ?_ hd
  · intro i σ H _ p
    exact hq i σ H p
  · rintro i v σ H H' hi p ⟨rfl, y⟩
    exact hs i v σ _ _ (y _ (hq i σ _ p)) p fun _ _ z => z
theorem s_tupC {α : Type} {A : Rp α} {K : Fg} {M : Ms} {H : Hp} {as : List α} {x : V} {Q : VK} (h : rL A K M H x as) (q : ∀ p H', Same H H' → TyX K H' (.ref p) (.type "tuple") → Q (.ref p) H') : rTupC K [x] H Q := by
  obtain ⟨p, vs, rfl, l, r⟩ := h
  exact ⟨p, vs, rfl, .inl ⟨l.sq, fun c n => q c _ (Same.upd_new n) (.base (.tup upd_same))⟩⟩
theorem s_dnew {σ : L2.St} {H : Hp} {K : Fg} {Q : VK} (q : ∀ p H', Same H H' → TyX K H' (.ref p) (.type "dict") → Q (.ref p) H') : tDNewK σ H Q := fun p n => q p _ (Same.upd_new n) (.base (.dK upd_same))

/-! ## knots among any values -/
def Ob.items : Ob → List Ob | .tup xs => xs | .lst xs => xs | _ => []
def Ob.isSq (o : Ob) : Bool := o.isLst || o.isTup
def Ob.isKn : Ob → Bool | .tup [a, b] => a.isFr && b.isFr | _ => false
def Ob.fr : Ob → Rat | .tup [.int n, .int d] => (n : Rat) / (d : Rat) | _ => 0
def Ob.kn : Ob → Kn | .tup [a, b] => (a.fr, b.fr) | _ => (0, 0)
/-- the times ascend, told from place to place -/
def ascL (ks : List Kn) : Bool := (List.range (ks.length - 1)).all fun i => decide ((ks.getD i (0, 0)).1 < (ks.getD (i + 1) (0, 0)).1)
def Ob.areK (o : Ob) : Bool := o.isSq && !decide (o.items.length = 0) && o.items.all Ob.isKn && ascL (o.items.map Ob.kn)
/-- all whole numbers in it have at most k bits -/
inductive OBd (k : Nat) : Ob → Prop
  | int {i : Int} : Bd k i → OBd k (.int i)
  | bl {b : Bool} : OBd k (.bl b)
  | str : OBd k .str
  | non : OBd k .non
  | dic : OBd k .dic
  | tup {xs : List Ob} : (∀ x, x ∈ xs → OBd k x) → OBd k (.tup xs)
  | lst {xs : List Ob} : (∀ x, x ∈ xs → OBd k x) → OBd k (.lst xs)
theorem OBd.items {k : Nat} {o : Ob} (h : OBd k o) : ∀ x ∈ o.items, OBd k x := by
  cases h <;> first | assumption | (intro x hx; cases hx)
theorem OBd.num {k : Nat} {i : Int} (h : OBd k (.int i)) : Bd k i := by cases h; assumption
theorem isFr_inv {o : Ob} (h : o.isFr = true) : ∃ n d : Int, o = .tup [.int n, .int d] ∧ 1 ≤ d ∧ Nat.gcd n.natAbs d.natAbs = 1 := by
  match o with
  | .tup [.int n, .int d] => simp only [Ob.isFr, Bool.and_eq_true, decide_eq_true_eq] at h; exact ⟨n, d, rfl, h⟩
  | .int _ | .bl _ | .str | .non | .dic | .lst _ => simp [Ob.isFr] at h
  | .tup [] | .tup [_] | .tup (_ :: _ :: _ :: _) => simp [Ob.isFr] at h
  | .tup [.int _, .bl _] | .tup [.int _, .str] | .tup [.int _, .non] | .tup [.int _, .dic] | .tup [.int _, .lst _] | .tup [.int _, .tup _] => simp [Ob.isFr] at h
  | .tup [.bl _, _] | .tup [.str, _] | .tup [.non, _] | .tup [.dic, _] | .tup [.lst _, _] | .tup [.tup _, _] => simp [Ob.isFr] at h
theorem isKn_inv {o : Ob} (h : o.isKn = true) : ∃ a b : Ob, o = .tup [a, b] ∧ a.isFr = true ∧ b.isFr = true := by
  match o with
  | .tup [a, b] => simp only [Ob.isKn, Bool.and_eq_true] at h; exact ⟨a, b, rfl, h⟩
  | .int _ | .bl _ | .str | .non | .dic | .lst _ => simp [Ob.isKn] at h
  | .tup [] | .tup [_] | .tup (_ :: _ :: _ :: _) => simp [Ob.isKn] at h
theorem fr_parts {n d : Int} (h1 : 1 ≤ d) (h2 : Nat.gcd n.natAbs d.natAbs = 1) : ((n : Rat) / (d : Rat)).num = n ∧ (((n : Rat) / (d : Rat)).den : Int) = d := (fr_low (by omega)).mpr h2
section
variable {K : Fg} {M : Ms} {H : Hp} {v : V} {o : Ob}
theorem ob_fr (h : rOb K M H v o) (hf : o.isFr = true) : rFr K M H v o.fr := by
  obtain ⟨n, d, rfl, h1, h2⟩ := isFr_inv hf
  obtain ⟨p, vs, rfl, t, r⟩ := OA.tup_inv h
  cases r with
  | cons a r =>
    cases r with
    | cons b r =>
      cases r
      cases a
      cases b
      refine ⟨p, rfl, ?_⟩
      show TupM K M H p [.int ((n : Rat) / (d : Rat)).num, .int ((n : Rat) / (d : Rat)).den]
      rw [(fr_parts h1 h2).1, (fr_parts h1 h2).2]
      exact t
theorem ob_kn (h : rOb K M H v o) (hf : o.isKn = true) : rKn K M H v o.kn := by
  obtain ⟨a, b, rfl, h1, h2⟩ := isKn_inv hf
  obtain ⟨p, vs, rfl, t, r⟩ := OA.tup_inv h
  cases r with
  | cons ra r =>
    cases r with
    | cons rb r =>
      cases r
      exact ⟨p, _, _, rfl, t, ob_fr ra h1, ob_fr rb h2⟩
theorem OBd.fr {k : Nat} (h : OBd k o) (hf : o.isFr = true) : BQ k o.fr := by
  obtain ⟨n, d, rfl, h1, h2⟩ := isFr_inv hf
  cases h with
  | tup h =>
    have a := (h (.int n) (by simp)).num
    have b := (h (.int d) (by simp)).num
    refine ⟨?_, ?_⟩
    · show Bd k ((n : Rat) / (d : Rat)).num
      rw [(fr_parts h1 h2).1]; exact a
    · show Bd k (((n : Rat) / (d : Rat)).den : Int)
      rw [(fr_parts h1 h2).2]; exact b
theorem OBd.kn {k : Nat} (h : OBd k o) (hf : o.isKn = true) : BQ k o.kn.1 ∧ BQ k o.kn.2 := by
  obtain ⟨a, b, rfl, h1, h2⟩ := isKn_inv hf
  cases h with
  | tup h => exact ⟨(h a (by simp)).fr h1, (h b (by simp)).fr h2⟩
theorem OBd.kb {k : Nat} {xs : List Ob} (h : ∀ x ∈ xs, OBd k x) (hf : xs.all Ob.isKn = true) : KB k (xs.map Ob.kn) := by
  intro p hp
  obtain ⟨x, hx, rfl⟩ := List.mem_map.mp hp
  exact (h x hx).kn (List.all_eq_true.mp hf x hx)
theorem prd_kn {vs : List V} {xs : List Ob} (h : Paired (OA K M H) vs xs) (hf : xs.all Ob.isKn = true) : Paired (rKn K M H) vs (xs.map Ob.kn) := by
  induction h with
  | nil => exact .nil
  | cons r t ih =>
    rw [List.all_cons, Bool.and_eq_true] at hf
    exact .cons (ob_kn r hf.1) (ih hf.2)
end
theorem ascL_get {ks : List Kn} (h : ascL ks = true) {i : Nat} {a b : Kn} (ea : ks[i]? = some a) (eb : ks[i + 1]? = some b) : a.1 < b.1 := by
  unfold ascL at h
  rw [List.all_eq_true] at h
  have l := (List.getElem?_eq_some_iff.mp eb).1
  have := h i (List.mem_range.mpr (by omega))
  simp only [List.getD_eq_getElem?_getD, ea, eb, Option.getD_some, decide_eq_true_eq] at this
  exact this
theorem asc_iff {ks : List Kn} : ascL ks = true ↔ Asc ks := by
  constructor
  · intro h
    have up : ∀ (n i : Nat) (a b : Kn), ks[i]? = some a → ks[i + n + 1]? = some b → a.1 < b.1 := by
      intro n
      induction n with
      | zero => intro i a b ea eb; exact ascL_get h ea eb
      | succ n ih =>
        intro i a b ea eb
        have l := (List.getElem?_eq_some_iff.mp eb).1
        have ec := List.getElem?_eq_getElem (show i + n + 1 < ks.length by omega)
        exact Std.lt_trans (ih i a _ ea ec) (ascL_get h ec eb)
    unfold Asc
    rw [List.pairwise_iff_getElem]
    intro i j hi hj hij
    exact up (j - i - 1) i _ _ (List.getElem?_eq_getElem hi) (by rw [show i + (j - i - 1) + 1 = j by omega]; exact List.getElem?_eq_getElem hj)
  · intro h
    unfold ascL
    rw [List.all_eq_true]
    intro i hi
    have hi := List.mem_range.mp hi
    have ea := List.getElem?_eq_getElem (show i < ks.length by omega)
    have eb := List.getElem?_eq_getElem (show i + 1 < ks.length by omega)
    simp only [List.getD_eq_getElem?_getD, ea, eb, Option.getD_some, decide_eq_true_eq]
    exact h.get ea eb (by omega)
/-! ## a list or a tuple -/
def rTp {α : Type} (A : Rp α) : Rp (List α) := fun K M H v as => ∃ p vs, v = .ref p ∧ TupM K M H p vs ∧ Paired (A K M H) vs as
instance {α : Type} (A : Rp α) [Mono A] : Mono (rTp A) := ⟨fun t ⟨p, vs, e, h, a⟩ => ⟨p, vs, e, h.mono t, Prd.monoR (fun _ _ z => Mono.mono t z) a⟩⟩
def rQ {α : Type} (A : Rp α) : Rp (List α) := fun K M H v as => rL A K M H v as ∨ rTp A K M H v as
instance {α : Type} (A : Rp α) [Mono A] : Mono (rQ A) := ⟨fun t h => h.imp (fun z => Mono.mono t z) (fun z => Mono.mono t z)⟩
section
variable {α : Type} {A : Rp α} {K : Fg} {M : Ms} {H : Hp} {x : V} {as : List α} {Q : VK}
theorem s_lenQ (h : rQ A K M H x as) (k : Q (.int as.length) H) : rLen K [x] H Q := by
  rcases h with h | ⟨p, vs, rfl, t, r⟩
  · exact s_len h k
  · exact ⟨_, vs.length, rfl, .inr ⟨vs, t.sq, rfl⟩, by rw [Prd.len r]; exact k⟩
theorem s_ixQ {i : Int} {j : Nat} {a : α} (h : rQ A K M H x as) (hj : as[j]? = some a) (e : i = (j : Int)) (k : ∀ y, A K M H y a → Q y H) : rIx K x (.int i) H Q := by
  subst e
  have l := (List.getElem?_eq_some_iff.mp hj).1
  rcases h with h | ⟨p, vs, rfl, t, r⟩
  · exact s_ixL h hj (ixN_nat l) k
  · obtain ⟨y, e1, e2⟩ := Prd.get r hj
    exact .inr (.inl ⟨p, vs, j, y, rfl, rfl, t.sq, by unfold atI; rw [Prd.len r, ixN_nat l]; exact e1, k y e2⟩)
theorem ob_seq {o : Ob} (h : rOb K M H x o) (hs : o.isSq = true) : rQ rOb K M H x o.items := by
  cases o with
  | tup xs =>
    obtain ⟨p, vs, e, t, r⟩ := OA.tup_inv h
    exact .inr ⟨p, vs, e, t, r⟩
  | lst xs =>
    obtain ⟨p, vs, e, t, r⟩ := OA.lst_inv h
    exact .inl ⟨p, vs, e, t, r⟩
  | _ => simp [Ob.isSq, Ob.isLst, Ob.isTup] at hs
theorem rQ_kn {xs : List Ob} (h : rQ rOb K M H x xs) (hf : xs.all Ob.isKn = true) : rQ rKn K M H x (xs.map Ob.kn) := by
  rcases h with ⟨p, vs, e, l, r⟩ | ⟨p, vs, e, l, r⟩
  · exact .inl ⟨p, vs, e, l, prd_kn r hf⟩
  · exact .inr ⟨p, vs, e, l, prd_kn r hf⟩
theorem s_isiQ {o : Ob} {p : Addr} (h : rOb K M H x o) (e : H p = some (.tup [.ty "list", .ty "tuple"])) (q : Q (.bl o.isSq) H) : rIsiT K [x, .ref p] H Q := by
  refine ⟨x, p, _, _, [.type "list", .type "tuple"], o.isSq, rfl, e, .cons (.ty _) (.cons (.ty _) .nil), OA.tyx h, ?_, q⟩
  refine kitAny_cons (kit_ty (kb_ol o)) (fun e1 => ?_) (fun e1 => by unfold Ob.isSq; rw [e1]; rfl)
  refine kitAny_cons (kit_ty (kb_ot o)) (fun e2 => ?_) (fun e2 => by unfold Ob.isSq; rw [e2, Bool.or_true])
  unfold Ob.isSq
  rw [e1, e2]
  rfl
theorem s_listQ [Mono A] (h : rQ A K M H x as) (q : ∀ p vs H', H p = none → Same H H' → H' p = some (.lst vs) → Paired (A K M H') vs as → Q (.ref p) H') : rListC K [x] H Q := by
  rcases h with ⟨p, vs, rfl, l, r⟩ | ⟨p, vs, rfl, l, r⟩
  · exact ⟨p, vs, rfl, .inl l.sq, fun c n => q c vs _ n (Same.upd_new n) upd_same (Prd.same (Same.upd_new n) r)⟩
  · exact ⟨p, vs, rfl, .inr l.sq, fun c n => q c vs _ n (Same.upd_new n) upd_same (Prd.same (Same.upd_new n) r)⟩
/-- y = x[1:], of x that is not empty -/
def SameKind {α : Type} (A : Rp α) (K : Fg) (M : Ms) (H : Hp) (x y : V) (as bs : List α) : Prop := (rL A K M H x as ∧ rL A K M H y bs) ∨ (rTp A K M H x as ∧ rTp A K M H y bs)
theorem s_tailQ [Mono A] (h : rQ A K M H x as) (w : Own M H) (h0 : 0 < as.length) (q : ∀ y H', Same H H' → SameKind A K M H' x y as (as.drop 1) → Q y H') : rSlL K x (some 1) none H Q ∨ rSlA K x (some 1) none H Q := by
  rcases h with h | ⟨p, vs, rfl, t, r⟩
  · refine .inl (s_cutL (A := A) (M := M) h w fun y H' s ry => ?_)
    rw [cutA_tail] at ry
    exact q y H' s (.inl ⟨Rp.same s h, ry⟩)
  · refine .inr ⟨p, vs, rfl, t.sq, fun z => ?_, fun z c n => ?_⟩
    · have e : HT.sIx vs.length 0 (some 1) = min 1 vs.length := HT.sIx_nat _ _ 1
      have := Prd.len r
      omega
    · have hc := Prd.cut (lo := some 1) (hi := none) r
      rw [cutA_tail] at hc
      have s : Same H (upd H c (.tup (cutV vs (some 1) none))) := Same.upd_new n
      exact q _ _ s (.inr ⟨⟨p, vs, rfl, t.same s, Prd.same s r⟩, ⟨c, _, rfl, .inl ⟨w.fresh n, upd_same⟩, Prd.same s hc⟩⟩)
end
theorem PI.or {X : Cx} {tg it : Expr} {w1 w2 : TI} (h1 : PI X tg it w1) (h2 : PI X tg it w2) : PI X tg it (fun σ H R => w1 σ H R ∨ w2 σ H R) :=
  ⟨fun pins s σ H R I h => h.elim (fun z => h1.run pins s σ H R I z) (fun z => h2.run pins s σ H R I z)⟩
def iQ (K : Fg) (te : TE) : TI := fun σ H R => iList K te σ H R ∨ iTup K te σ H R
theorem piQK {X : Cx} {tg e : Expr} {te : TE} (K : Fg) (he : PE X e te) (h : X.K = K := by rfl) : PI X tg e (iQ K te) := PI.or (piListK K he h) (piTupK K he h)
theorem slQK {X : Cx} (K : Fg) (h : X.K = K := by rfl) : SlR X (fun x lo hi H Q => rSlL K x lo hi H Q ∨ rSlA K x lo hi H Q) := by subst h; exact sl_list.or sl_tupA
theorem piZipAK {X : Cx} {e e2 : Expr} {ta : TA} {p pos tpos : Pos} {elts : List Expr} {kk : Nat} (K : Fg) (hg : Gl X "zip") (hm : X.mg "zip" = none) (ha : PA X [e, e2] ta)
    (hs : starEach [e, e2] X.env = (false, eval e X.env) :: starEach [e2] X.env := by rfl) (hpl : (backTo pos (starEach [e2] X.env)).any (·.1) = false := by rfl) (h : X.K = K := by rfl) :
    PI X (.Tuple elts kk tpos) (.Call (.Name "zip" p) [e, e2] [] pos) (RZ.iZipA K ta) := by subst h; exact RZ.pi_zipA hg hm ha hs hpl
/-! ## comprehensions and loops over it -/
section
variable {α β : Type} {A : Rp α} {B : Rp β} [Mono A] [Mono B] {K : Fg} {M : Ms} {g : TG} {tt : TT} {te : TE} {vs : List Nat} {σ : L2.St} {H1 : Hp} {Q : VK}
theorem lc_mapW {J : It} {G : Hp → Prop} {Y : Nat → Hp → V → Hp → Prop} (as : List α) (c : α → Bool) (f : α → β) (W0 : Walk J as.length G Y)
    (hG : ∀ M' H, Tr M H1 M' H → Own M' H → G H) (hY : ∀ i M' H x H', i < as.length → Tr M H1 M' H → Own M' H → Y i H x H' → ∃ a, as[i]? = some a ∧ Same H H' ∧ A K M' H' x a) (w : Own M H1) (hn : as.length < 100000)
    (hs : ∀ (i : Nat) (a : α) (v : V) (M' : Ms) (H2 : Hp) (Z : VK) (N : Hp → Prop), as[i]? = some a → Tr M H1 M' H2 → Own M' H2 → A K M' H2 v a →
      (c a = true → ∀ y H4, Same H2 H4 → B K M' H4 y (f a) → Z y H4) → (c a = false → ∀ H3, Same H2 H3 → N H3) → LcTurn g tt te vs σ H2 v Z N)
    (h : ∀ v H', Same H1 H' → rS B K M H' v ((as.filter c).map f) → Q v H') :
    ∀ D, H1 D = none → ∃ W : Nat → Nat → Hp → Prop, (∃ m, W 0 m (upd H1 D (.lst []))) ∧ ∀ i m H, W i m H →
      (J.stop i H ∧ Q (.ref D) H) ∨ (J.go i H ∧ ∃ Nx : Hp → Prop, (∀ H', Nx H' → ∃ m', m' < m ∧ W (i + 1) m' H') ∧ ∀ x H', J.yld i H x H' → g x (wipe σ vs) H' fun σ2 H2 => wipe σ2 vs = wipe σ vs ∧ tt σ2 H2 fun b H3 =>
        if b = true then te σ2 H3 fun y H4 => ∃ acc, H4 D = some (.lst acc) ∧ acc.length < sizeLine ∧ Nx (upd H4 D (.lst (acc ++ [y]))) else Nx H3) := by
  intro D hD
  refine lc_it W0 (fun i H => ∃ acc, H D = some (.lst acc) ∧ Same H1 H ∧ Paired (B K (mIn M D) H) acc (((as.take i).filter c).map f)) ?_ ?_ ?_ ?_
  · exact ⟨[], upd_same, Same.upd_new hD, .nil⟩
  · rintro i H _ ⟨acc, e, s, _⟩
    exact hG (mIn M D) H (Tr.inside s hD) (w.inside s e)
  · rintro i v H H' hi ⟨acc, e, s, p⟩ y
    obtain ⟨a, ha, sT, ra⟩ := hY i (mIn M D) H v H' hi (Tr.inside s hD) (w.inside s e) y
    have s2 := Same.trans s sT
    have eD := sT _ _ e
    have et : (as.take (i + 1)) = as.take i ++ [a] := by
      rw [List.take_succ, ha]
      rfl
    have la : acc.length < sizeLine := small_line (by
      rw [Prd.len p, List.length_map]
      have h1 := List.length_filter_le c (as.take i)
      have h2 := List.length_take_le i as
      omega)
    refine hs i a v (mIn M D) H' _ _ ha (Tr.inside s2 hD) (w.inside s2 eD) ra (fun hc y H4 s4 hy => ?_) (fun hc H3 s3 => ?_)
    · refine ⟨acc, s4 _ _ eD, la, acc ++ [y], upd_same, Same.into (Same.trans s2 s4) hD, ?_⟩
      rw [et, List.filter_append, List.map_append, show [a].filter c = [a] by simp [hc]]
      exact Prd.snoc (Mono.mono Tr.updM hy) (Prd.monoR (fun _ _ z => Mono.mono Tr.updM (Rp.same s4 (Rp.same sT z))) p)
    · refine ⟨acc, s3 _ _ eD, s2.trans s3, ?_⟩
      rw [et, List.filter_append, show [a].filter c = [] by simp [hc], List.append_nil]
      exact Prd.monoR (fun _ _ z => Rp.same s3 (Rp.same sT z)) p
  · rintro H ⟨acc, e, s, p⟩
    rw [List.take_length] at p
    exact h _ _ s (rS.of w hD e (Prd.monoR (fun _ _ z => Mono.mono Tr.outside z) p))
theorem lc_mapQ {j : Nat} {x : V} (ex : σ[j]? = some (some x)) (as : List α) (c : α → Bool) (f : α → β) (hx : rQ A K M H1 x as) (w : Own M H1) (hn : as.length < 100000)
    (hs : ∀ (i : Nat) (a : α) (v : V) (M' : Ms) (H2 : Hp) (Z : VK) (N : Hp → Prop), as[i]? = some a → Tr M H1 M' H2 → Own M' H2 → A K M' H2 v a →
      (c a = true → ∀ y H4, Same H2 H4 → B K M' H4 y (f a) → Z y H4) → (c a = false → ∀ H3, Same H2 H3 → N H3) → LcTurn g tt te vs σ H2 v Z N)
    (h : ∀ v H', Same H1 H' → rS B K M H' v ((as.filter c).map f) → Q v H') : tLc (iQ K (tVar j)) g tt te vs σ H1 Q := by
  rcases hx with ⟨p, xs, rfl, l, r⟩ | ⟨p, xs, rfl, l, r⟩
  · refine .inl ⟨_, ex, p, rfl, ⟨xs, l.sq⟩, ?_⟩
    have el := Prd.len r
    refine lc_mapW (A := A) (B := B) (M := M) (G := fun H => SqL K H p xs) (Y := YAt xs) as c f (by rw [← el]; exact walk_list) (fun M' H t _ => (l.mono t).sq) (fun i M' H x H' hi t _ y => ?_) w hn hs h
    obtain ⟨rfl, y⟩ := y
    obtain ⟨a, ha, ra⟩ := Prd.getL r y
    exact ⟨a, ha, Same.refl _, Mono.mono t ra⟩
  · refine .inr ⟨_, ex, p, rfl, ⟨xs, l.sq⟩, ?_⟩
    have el := Prd.len r
    refine lc_mapW (A := A) (B := B) (M := M) (G := fun H => SqT K H p xs) (Y := YAt xs) as c f (by rw [← el]; exact walk_tup) (fun M' H t _ => (l.mono t).sq) (fun i M' H x H' hi t _ y => ?_) w hn hs h
    obtain ⟨rfl, y⟩ := y
    obtain ⟨a, ha, ra⟩ := Prd.getL r y
    exact ⟨a, ha, Same.refl _, Mono.mono t ra⟩
/-- a for over it -/
theorem for_Q {j : Nat} {x : V} {tb : TS} {D : Ends} (ex : σ[j]? = some (some x)) (as : List α) (hx : rQ A K M H1 x as) (Pv : Nat → L2.St → Hp → Prop) (h0 : Pv 0 σ H1) (hq : ∀ i σ H, Pv i σ H → Tr M H1 M H)
    (hs : ∀ (i : Nat) (a : α) (v : V) (σ : L2.St) (H : Hp) (N : L2.St → Hp → Prop), as[i]? = some a → Pv i σ H → A K M H v a → (∀ σ' H', Pv (i + 1) σ' H' → N σ' H') → g v σ H fun σ2 H2 => tb { D with nx := N, ct := N, bk := D.nx } σ2 H2)
    (hd : ∀ σ H, Pv as.length σ H → D.nx σ H) : tFor (iQ K (tVar j)) g tb D σ H1 := by
  rcases hx with ⟨p, xs, rfl, l, r⟩ | ⟨p, xs, rfl, l, r⟩
  · refine .inl ⟨_, ex, p, rfl, ⟨xs, l.sq⟩, ?_⟩
    have el := Prd.len r
    refine for_it (G := fun H => SqL K H p xs) (Y := YAt xs) (n := as.length) (by rw [← el]; exact walk_list) Pv h0 (fun i σ H _ pv => (l.mono (hq i σ H pv)).sq) (fun i v σ H H' hi pv y => ?_) hd
    obtain ⟨rfl, y⟩ := y
    obtain ⟨a, ha, ra⟩ := Prd.getL r y
    exact hs i a v σ _ _ ha pv (Mono.mono (hq i σ _ pv) ra) fun _ _ z => z
  · refine .inr ⟨_, ex, p, rfl, ⟨xs, l.sq⟩, ?_⟩
    have el := Prd.len r
    refine for_it (G := fun H => SqT K H p xs) (Y := YAt xs) (n := as.length) (by rw [← el]; exact walk_tup) Pv h0 (fun i σ H _ pv => (l.mono (hq i σ H pv)).sq) (fun i v σ H H' hi pv y => ?_) hd
    obtain ⟨rfl, y⟩ := y
    obtain ⟨a, ha, ra⟩ := Prd.getL r y
    exact hs i a v σ _ _ ha pv (Mono.mono (hq i σ _ pv) ra) fun _ _ z => z
end
/-! ## a comprehension over zip of two lists, or of two tuples -/
theorem wk_zipT {K : Fg} {a b : Addr} {us ws : List V} {m : Nat} (e : m = min us.length ws.length) : Walk (RZ.ItzT K a b) m (fun H => SqT K H a us ∧ SqT K H b ws) (YPair (fun i => us[i]?) (fun i => ws[i]?)) := by
  constructor
  · intro i H l g
    have l1 : i < us.length := by omega
    have l2 : i < ws.length := by omega
    exact ⟨us, ws, us[i]'l1, ws[i]'l2, g.1, g.2, List.getElem?_eq_getElem l1, List.getElem?_eq_getElem l2⟩
  · intro H g
    exact ⟨us, ws, g.1, g.2, by omega⟩
  · intro i H v H' l g yy
    obtain ⟨T, u1, u2, e1, e2, e3, f1, f2⟩ := yy
    exact ⟨T, u1, u2, e1, e2, e3, f1 us g.1, f2 ws g.2⟩
def rZipA (K : Fg) (xs : List V) (H1 : Hp) (R : It → Prop) : Prop := ∃ a b ys zs, xs = [.ref a, .ref b] ∧ ((SqL K H1 a ys ∧ SqL K H1 b zs ∧ R (Itz K a b)) ∨ (SqT K H1 a ys ∧ SqT K H1 b zs ∧ R (RZ.ItzT K a b)))
def LcJ (g : TG) (tt : TT) (te : TE) (vs : List Nat) (σ : L2.St) (H1 : Hp) (Q : VK) (J : It) : Prop := ∀ D, H1 D = none → ∃ W : Nat → Nat → Hp → Prop, (∃ m, W 0 m (upd H1 D (.lst []))) ∧ ∀ i m H, W i m H →
  (J.stop i H ∧ Q (.ref D) H) ∨ (J.go i H ∧ ∃ Nx : Hp → Prop, (∀ H', Nx H' → ∃ m', m' < m ∧ W (i + 1) m' H') ∧ ∀ x H', J.yld i H x H' → g x (wipe σ vs) H' fun σ2 H2 => wipe σ2 vs = wipe σ vs ∧ tt σ2 H2 fun b H3 =>
    if b = true then te σ2 H3 fun y H4 => ∃ acc, H4 D = some (.lst acc) ∧ acc.length < sizeLine ∧ Nx (upd H4 D (.lst (acc ++ [y]))) else Nx H3)
theorem s_lcZA {K : Fg} {ta : TA} {g : TG} {tt : TT} {te : TE} {vs : List Nat} {σ : L2.St} {H : Hp} {Q : VK} (h : ta σ H fun xs H1 => rZipA K xs H1 (LcJ g tt te vs σ H1 Q)) : tLc (RZ.iZipA K ta) g tt te vs σ H Q := h
section
variable {α β : Type} {A : Rp α} {B : Rp β} [Mono A] [Mono B] {K : Fg} {M : Ms} {g : TG} {tt : TT} {te : TE} {vs : List Nat} {σ : L2.St} {H1 : Hp} {Q : VK}
theorem lc_zipA {x y : V} (as bs : List α) (hk : SameKind A K M H1 x y as bs) (c : α × α → Bool) (f : α × α → β) (w : Own M H1) (hn : as.length < 100000)
    (hs : ∀ (i : Nat) (a : α × α) (v : V) (M' : Ms) (H2 : Hp) (Z : VK) (N : Hp → Prop), (as.zip bs)[i]? = some a → Tr M H1 M' H2 → Own M' H2 → rT2 A A K M' H2 v a →
      (c a = true → ∀ y H4, Same H2 H4 → B K M' H4 y (f a) → Z y H4) → (c a = false → ∀ H3, Same H2 H3 → N H3) → LcTurn g tt te vs σ H2 v Z N)
    (h : ∀ v H', Same H1 H' → rS B K M H' v (((as.zip bs).filter c).map f) → Q v H') : rZipA K [x, y] H1 (LcJ g tt te vs σ H1 Q) := by
  have yp : ∀ (xs ys : List V), Paired (A K M H1) xs as → Paired (A K M H1) ys bs → ∀ i M' H v H', i < (as.zip bs).length → Tr M H1 M' H → Own M' H → YPair (fun i => xs[i]?) (fun i => ys[i]?) i H v H' → ∃ a, (as.zip bs)[i]? = some a ∧ Same H H' ∧ rT2 A A K M' H' v a := by
    intro xs ys pa pb i M' H v H' hi t ow yy
    obtain ⟨T, u1, u2, rfl, hT, rfl, f1, f2⟩ := yy
    obtain ⟨c1, h1, r1⟩ := Prd.getL pa f1
    obtain ⟨c2, h2, r2⟩ := Prd.getL pb f2
    have sT : Same H (upd H T (.tup [u1, u2])) := Same.upd_new hT
    exact ⟨(c1, c2), by rw [List.getElem?_zip_eq_some]; exact ⟨h1, h2⟩, sT, T, u1, u2, rfl, .inl ⟨ow.fresh hT, upd_same⟩, Rp.same sT (Mono.mono t r1), Rp.same sT (Mono.mono t r2)⟩
  have hz : (as.zip bs).length < 100000 := by rw [List.length_zip]; omega
  rcases hk with ⟨⟨p, xs, rfl, l, r⟩, ⟨p', ys, rfl, l', r'⟩⟩ | ⟨⟨p, xs, rfl, l, r⟩, ⟨p', ys, rfl, l', r'⟩⟩
  · refine ⟨p, p', xs, ys, rfl, .inl ⟨l.sq, l'.sq, ?_⟩⟩
    exact lc_mapW (A := rT2 A A) (B := B) (M := M) (as.zip bs) c f (walk_zip (xs := xs) (ys := ys) (by rw [List.length_zip, Prd.len r, Prd.len r'])) (fun M' H t _ => ⟨(l.mono t).sq, (l'.mono t).sq⟩) (yp xs ys r r') w hz hs h
  · refine ⟨p, p', xs, ys, rfl, .inr ⟨l.sq, l'.sq, ?_⟩⟩
    exact lc_mapW (A := rT2 A A) (B := B) (M := M) (as.zip bs) c f (wk_zipT (us := xs) (ws := ys) (by rw [List.length_zip, Prd.len r, Prd.len r'])) (fun M' H t _ => ⟨(l.mono t).sq, (l'.mono t).sq⟩) (yp xs ys r r') w hz hs h
end
/-! ## a class that a local name holds; a classmethod read off the class -/
def tMakeL (i : Nat) (C : Addr) (sp : Sp) (E : XK) (t : TA) : TE := fun σ H Q => σ[i]? = some (some (.ref C)) ∧ tMake C sp [] E t σ H Q
theorem pe_calIL {X : Cx} {CX : CXT} {k i : Nat} {C : Addr} {ps : List Str} {sp : Sp} {E : XK} {x : Str} {p pos : Pos} {e : Expr} {es : List Expr} {t : TA} (G : CalI X.prog X.w X.K X.mg X.base CX k C ps sp) (hr : Room (k + 1) X.A) (hN : X.N[i]? = some x) (hv : Vis X.env.scope x) (hx : Passes CX X E) (ha : PA X (e :: es) t)
    (hdb : (x == ("__debug__" : Str)) = false := by decide) (hcd : (x == ("__classdict__" : Str)) = false := by decide) (he : starEach (e :: es) X.env = (false, eval e X.env) :: starEach es X.env := by rfl) (hpl : (backTo pos (starEach es X.env)).any (·.1) = false := by rfl) :
    PE X (.Call (.Name x p) (e :: es) [] pos) (tMakeL i C sp E t) := by
  obtain ⟨f, fd, F, Mc, hb⟩ := G.ex
  constructor
  intro pn s0 σ H Q I h
  have hloc := (pe_var (X := X) (pos := p) hN hv hdb hcd).run pn s0 σ H (fun v H1 => v = .ref C ∧ H1 = H) I ⟨.ref C, h.1, rfl, rfl⟩
  refine wpAny_Call_Name_kw (thn hloc ?_)
  rintro u s1 ⟨v, H1, I1, r1, rfl, rfl⟩
  cases r1
  have hargs := ha.run pos pn s1 σ _ _ I1 h.2
  refine PySem.W.callWith_K (h₀ := X.base) I.ok.mod.kin Mc.kp (thn hargs ?_) he hpl
  rintro us s2 ⟨vs, H2, I2, r, q⟩
  exact ⟨I2.kIn, run_make Mc F hr hb .nil hx I2 r q⟩
structure CalC (P : Program) (w : World) (K : Fg) (mg : Str → Option Value) (base : Heap) (CX : CXT) (k : Nat) (C : Addr) (m : Str) (sp : Sp) : Prop where
  ex : ∃ (mc : Value) (p g : Addr), ClX.CRead K C mc ∧ ClX.CMet K C mc m p g ∧ FnR P w K mg base CX k g sp
theorem pe_ccm {X : Cx} {CX : CXT} {k : Nat} {C : Addr} {m : Str} {sp : Sp} {E : XK} {o e : Expr} {es : List Expr} {pos apos : Pos} {ta : TE} {t : TA} {pl : Sem Bool} (he : PE X o ta) (G : CalC X.prog X.w X.K X.mg X.base CX k C m sp) (hr : Room k X.A) (hx : Passes CX X E) (ha : PA X (e :: es) t)
    (hst : starEach (e :: es) X.env = (false, eval e X.env) :: starEach es X.env := by rfl) (hpl : (backTo pos (starEach es X.env)).any (·.1) = false := by rfl)
    (ht : eval (.Call (.Attribute o m apos) (e :: es) [] pos) X.env = (do
      let ov ← eval o X.env
      standAt apos.atName
      let (f, first) ← holding [ov] (getMethod ov m pl)
      callWith pos f first (backTo pos (starEach (e :: es) X.env)) (backToKw pos (keywordEach [] X.env))) := by rfl) : PE X (.Call (.Attribute o m apos) (e :: es) [] pos) (ClX.tCMeth C sp E ta t) := by
  obtain ⟨mc, p, g, r, c, F⟩ := G.ex
  exact ClX.pe_cmeth he r c F hr hx ha hst hpl ht
theorem FnR.nil {P : Program} {w : World} {K : Fg} {mg : Str → Option Value} {base : Heap} {CX : CXT} {k : Nat} {f : Addr} {sp : Sp} (F : FnR P w K mg base CX k f (fun vs H Q E => sp (vs ++ []) H Q E)) : FnR P w K mg base CX k f sp := F.imp fun vs H Q E h => by rw [List.append_nil]; exact h
theorem s_cmeth {C : Addr} {sp : Sp} {E : XK} {t : TA} {σ : L2.St} {H : Hp} {Q : VK} (h : t σ H fun vs H2 => sp (.ref C :: vs) H2 Q E) : ClX.tCMeth C sp E (tC (.ref C)) t σ H Q := ⟨rfl, h⟩
theorem s_makeL {i : Nat} {C : Addr} {sp : Sp} {E : XK} {t : TA} {σ : L2.St} {H : Hp} {Q : VK} (e : σ[i]? = some (some (.ref C))) (h : tMake C sp [] E t σ H Q) : tMakeL i C sp E t σ H Q := ⟨e, h⟩
/-! ## try: e, except X as n: .. -/
theorem pss_imp {X : Cx} {st : List Stmt} {t' : TS} (h : ∀ D σ H, t' D σ H → ∃ t, PSs X st t ∧ t D σ H) : PSs X st t' := ⟨fun pins s σ H D I h' => by
  obtain ⟨t, p, q⟩ := h D σ H h'
  exact p.run pins s σ H D I q⟩
theorem pss_zc {X : Cx} {st : List Stmt} {C : Addr} {cls : Value} {d : Option Addr} {t : TS} (h : cls = .ref C → d = none → PSs X st t) : PSs X st (fun D σ H => cls = .ref C ∧ d = none ∧ t D σ H) := pss_imp fun D σ H ⟨h1, h2, h3⟩ => ⟨t, h h1 h2, h3⟩
theorem zc_of {cls : Value} {d : Option Addr} {oe : Obj} {C : Addr} (hz : Zc cls d oe) (h1 : cls = .ref C) (h2 : d = none) : Zc (.ref C) none oe := by subst h1 h2; exact hz
def tTryE (K : Fg) (c : Value) (i m : Nat) (ts : Addr → Value → Option Addr → TS) (Wout : WX) (te : XK → TE) : TS := fun D σ H => te (fun cls d H' => ∀ σ' : L2.St, σ'.length = m → wAs K c i ts Wout D cls d σ' H') σ H fun _ H1 => D.nx σ H1
theorem ps_tryAs {X : Cx} {i m : Nat} {n x : Str} {c : Value} {e : Expr} {suite : List Stmt} {b₀ : Stmt} {np pos pos' epos : Pos} {te : XK → TE} {ts : Addr → Value → Option Addr → TS} {Wout : WX} (hs : X.stack = X.env :: X.outer) (hf : X.env.frame = some X.env.locals) (hN : X.N.Nodup) (hi : X.N[i]? = some n) (hl : X.N.length = m) (hln : X.env.kindOf n = some .local) (hc : Names X x c) (tk : Takes X Wout)
    (he : ∀ (W : WX) (pn : List (Addr × Obj)) (xe : Value → Shared → Prop) (E : XK), Takes (X.tr pn xe) (fun c d σ H => σ.length = m → W c d σ H) → (∀ cls d (σ : L2.St) H, E cls d H → σ.length = m → W cls d σ H) → PSs (X.tr pn xe) [.Expr e epos] (tDrop (te E)))
    (hsu : ∀ (a : Addr) (oe : Obj) (cls : Value) (d : Option Addr) (pn : List (Addr × Obj)), Zc cls d oe → (∃ vs, oe.data = .fields vs) → PSs (X.suite a ((a, oe) :: pn)) (b₀ :: suite) (ts a cls d)) :
    PS X (.Try [.Expr e epos] [.ExceptHandler (some (.Name x np)) (some n) (b₀ :: suite) pos'] [] [] pos) (tTryE X.K c i m ts Wout te) := by
  have key := ps_try_as (np := np) (pos := pos) (pos' := pos') (body := [.Expr e epos]) (tb := fun W D σ H => ∃ Ech : XK, (∀ cls d (σ' : L2.St) H', Ech cls d H' → σ'.length = m → W cls d σ' H') ∧ te Ech σ H fun _ H1 => D.nx σ H1) hs hf hN hi hln hc tk
    (fun W pn xe tk1 _ => pss_imp fun D σ H h => by
      obtain ⟨Ech, hW, h1⟩ := h
      exact ⟨_, he W pn xe Ech (by subst hl; exact takes_len tk1) hW, h1⟩) hsu
  exact ⟨fun pins s σ H D I h => key.run pins s σ H D I ⟨_, fun cls d σ' H' h1 h2 => h1 σ' h2, h⟩⟩
theorem s_tryE {K : Fg} {c : Value} {i m : Nat} {ts : Addr → Value → Option Addr → TS} {Wout : WX} {te : XK → TE} {D : Ends} {σ : L2.St} {H : Hp} (h : te (fun cls d H' => ∀ σ' : L2.St, σ'.length = m → wAs K c i ts Wout D cls d σ' H') σ H fun _ H1 => D.nx σ H1) : tTryE K c i m ts Wout te D σ H := h
/-- what the clause wishes of an exception of the class itself -/
theorem s_was {K : Fg} {c : Value} {C : Addr} {i : Nat} {ts : Addr → Value → Option Addr → TS} {Wout : WX} {D : Ends} {σ : L2.St} {H : Hp} (e : PySem.W.exmOne K (.ref C) c = some true) (h : ∀ a, H a = none → ts a (.ref C) none { nx := fun σ' H' => D.nx (σ'.set i none) H', rt := D.rt, bk := fun σ' H' => D.bk (σ'.set i none) H', ct := fun σ' H' => D.ct (σ'.set i none) H' } (σ.set i (some (.ref a))) H) :
    wAs K c i ts Wout D (.ref C) none σ H := ⟨true, e, fun _ a ha => h a ha, fun z => nomatch z⟩
theorem s_isE {K : Fg} {D a : Addr} {c : V} {cv : Value} {b : Bool} {H : Hp} {Q : VK} (h : ∀ u, RelV c u → u = cv) (e : PySem.W.kitOne K (.ref D) cv = some b) (q : Q (.bl b) H) : rIsE K D a [.ref a, c] H Q := ⟨c, cv, b, rfl, h, e, q⟩
/-! ## fractions and knots as any values -/
def frOb (q : Rat) : Ob := .tup [.int q.num, .int q.den]
def knOb (k : Kn) : Ob := .tup [frOb k.1, frOb k.2]
theorem frOb_fr (q : Rat) : (frOb q).fr = q := by
  show ((q.num : Rat) / ((q.den : Int) : Rat)) = q
  have := fr_parts (n := q.num) (d := (q.den : Int)) (by have := q.den_pos; omega) (by have := q.reduced; unfold Nat.Coprime at this; simpa using this)
  exact q_ext this.1 this.2
theorem frOb_isFr (q : Rat) : (frOb q).isFr = true := isFr_rat q
theorem knOb_kn (k : Kn) : (knOb k).kn = k := by
  show ((frOb k.1).fr, (frOb k.2).fr) = k
  rw [frOb_fr, frOb_fr]
theorem knOb_isKn (k : Kn) : (knOb k).isKn = true := by
  show ((frOb k.1).isFr && (frOb k.2).isFr) = true
  rw [frOb_isFr, frOb_isFr]
  rfl
theorem map_knOb (ks : List Kn) : (ks.map knOb).map Ob.kn = ks := by
  rw [List.map_map]
  conv => rhs; rw [← List.map_id ks]
  exact List.map_congr_left fun k _ => knOb_kn k
theorem all_knOb (ks : List Kn) : (ks.map knOb).all Ob.isKn = true := by
  rw [List.all_eq_true]
  intro x hx
  obtain ⟨k, _, rfl⟩ := List.mem_map.mp hx
  exact knOb_isKn k
theorem frOb_bd {k : Nat} {q : Rat} (h : BQ k q) : OBd k (frOb q) := .tup fun x hx => by
  simp only [List.mem_cons, List.not_mem_nil, or_false] at hx
  rcases hx with rfl | rfl
  · exact .int h.1
  · exact .int h.2
theorem knOb_bd {k : Nat} {p : Kn} (h1 : BQ k p.1) (h2 : BQ k p.2) : OBd k (knOb p) := .tup fun x hx => by
  simp only [List.mem_cons, List.not_mem_nil, or_false] at hx
  rcases hx with rfl | rfl
  · exact frOb_bd h1
  · exact frOb_bd h2
theorem OBd.up {j k : Nat} (l : j ≤ k) {o : Ob} (h : OBd j o) : OBd k o := by
  induction h with
  | int h => exact .int (Bd.mono h l)
  | bl => exact .bl
  | str => exact .str
  | non => exact .non
  | dic => exact .dic
  | tup _ ih => exact .tup ih
  | lst _ ih => exact .lst ih
theorem OBd.t1 {k : Nat} {a : Ob} (ha : OBd k a) : OBd k (.tup [a]) := .tup fun x hx => by
  simp only [List.mem_cons, List.not_mem_nil, or_false] at hx
  subst hx; exact ha
theorem OBd.t2 {k : Nat} {a b : Ob} (ha : OBd k a) (hb : OBd k b) : OBd k (.tup [a, b]) := .tup fun x hx => by
  simp only [List.mem_cons, List.not_mem_nil, or_false] at hx
  rcases hx with rfl | rfl <;> assumption
theorem OBd.l2 {k : Nat} {a b : Ob} (ha : OBd k a) (hb : OBd k b) : OBd k (.lst [a, b]) := .lst fun x hx => by
  simp only [List.mem_cons, List.not_mem_nil, or_false] at hx
  rcases hx with rfl | rfl <;> assumption
theorem OBd.t3 {k : Nat} {a b c : Ob} (ha : OBd k a) (hb : OBd k b) (hc : OBd k c) : OBd k (.tup [a, b, c]) := .tup fun x hx => by
  simp only [List.mem_cons, List.not_mem_nil, or_false] at hx
  rcases hx with rfl | rfl | rfl <;> assumption
section
variable {K : Fg} {M : Ms} {H : Hp} {v : V}
theorem fr_obO {q : Rat} (h : rFr K M H v q) : rOb K M H v (frOb q) := fr_ob h
theorem kn_ob {k : Kn} (h : rKn K M H v k) : rOb K M H v (knOb k) := by
  obtain ⟨p, x, y, rfl, t, a, b⟩ := h
  exact .tup t (.cons (fr_ob a) (.cons (fr_ob b) .nil))
theorem prd_ob {vs : List V} {ks : List Kn} (h : Paired (rKn K M H) vs ks) : Paired (OA K M H) vs (ks.map knOb) := by
  induction h with
  | nil => exact .nil
  | cons r t ih => exact .cons (kn_ob r) ih
theorem ks_ob {ks : List Kn} (h : rKs K M H v ks) : rOb K M H v (.lst (ks.map knOb)) := by
  obtain ⟨p, vs, rfl, l, r⟩ := h
  exact .lst l (OAs.of_prd (prd_ob r))
theorem tp_ob {ks : List Ob} (h : rTp rOb K M H v ks) : rOb K M H v (.tup ks) := by
  obtain ⟨p, vs, rfl, l, r⟩ := h
  exact .tup l (OAs.of_prd r)
theorem ls_ob {ks : List Ob} (h : rL rOb K M H v ks) : rOb K M H v (.lst ks) := by
  obtain ⟨p, vs, rfl, l, r⟩ := h
  exact .lst l (OAs.of_prd r)
end
section
variable {α : Type} {A : Rp α} [Mono A] {K : Fg} {M : Ms} {H : Hp} {x y : V} {as bs : List α} {Q : VK}
theorem s_catB (ha : rS A K M H x as) (hb : rS A K M H y bs) (w : Own M H) (hn : as.length + bs.length < 100000) (h : ∀ q H', H q = none → Same H H' → Own (mIn M q) H' → Bl A K M q H' (as ++ bs) → Q (.ref q) H') : rAddA K x y H Q := by
  obtain ⟨p, vs, rfl, n1, e1, p1⟩ := ha
  obtain ⟨q, ws, rfl, n2, e2, p2⟩ := hb
  refine .inr (.inl ⟨p, q, vs, ws, rfl, rfl, e1, e2, Nat.le_of_lt (small_line (by rw [Prd.len p1, Prd.len p2]; exact hn)), fun r nr => ?_⟩)
  have s : Same H (upd H r (.lst (vs ++ ws))) := Same.upd_new nr
  exact h _ _ nr s (w.inside s upd_same) ⟨_, upd_same, Prd.append (Prd.monoR (fun _ _ z => Mono.mono (Tr.inside s nr) z) p1) (Prd.monoR (fun _ _ z => Mono.mono (Tr.inside s nr) z) p2)⟩
theorem rS.b {r : Addr} {vs : List V} (n : ¬ M r) (e : H r = some (.lst vs)) (p : Paired (A K M H) vs as) : rS A K M H (.ref r) as := ⟨r, vs, rfl, n, e, p⟩
end
theorem kn_in {K : Fg} {M : Ms} {H : Hp} {r : Addr} {vs : List V} {v : V} {k : Kn} (e : H r = some (.lst vs)) (h : rKn K M H v k) : rKn K (mIn M r) H v k := by
  have key : ∀ {p : Addr} {xs : List V}, TupM K M H p xs → TupM K (mIn M r) H p xs := fun {p xs} z => z.elim (fun ⟨n, z⟩ => .inl ⟨fun y => y.elim n fun w => (by subst w; rw [e] at z; cases z), z⟩) .inr
  obtain ⟨p, x, y, rfl, t, ⟨p1, rfl, t1⟩, p2, rfl, t2⟩ := h
  exact ⟨p, _, _, rfl, key t, ⟨p1, rfl, key t1⟩, p2, rfl, key t2⟩

/-! ## the law's other draws: a state with cells -/
def kCells : Key := .inr "cells"
def kRest : Key := .inr "rest"
def stK (l i : Addr) (x t : Int) : List (Key × V) := [(kLarge, .ref l), (kCells, .ref i), (kRest, .int x), (kTurn, .int t)]
theorem kneS : kLarge ≠ kCells ∧ kLarge ≠ kRest ∧ kLarge ≠ kTurn ∧ kCells ≠ kRest ∧ kCells ≠ kTurn ∧ kRest ≠ kTurn := by decide +kernel
theorem st_large {l i : Addr} {x t : Int} : valV (stK l i x t) kLarge = some (.ref l) := valV_pos rfl
theorem st_cells {l i : Addr} {x t : Int} : valV (stK l i x t) kCells = some (.ref i) := by
  obtain ⟨h1, h2, h3, h4, h5, h6⟩ := kneS
  exact (valV_neg h1).trans (valV_pos rfl)
theorem st_rest {l i : Addr} {x t : Int} : valV (stK l i x t) kRest = some (.int x) := by
  obtain ⟨h1, h2, h3, h4, h5, h6⟩ := kneS
  exact (valV_neg h2).trans ((valV_neg h4).trans (valV_pos rfl))
theorem st_turn {l i : Addr} {x t : Int} : valV (stK l i x t) kTurn = some (.int t) := by
  obtain ⟨h1, h2, h3, h4, h5, h6⟩ := kneS
  exact (valV_neg h3).trans ((valV_neg h5).trans ((valV_neg h6).trans (valV_pos rfl)))
theorem put_rest {l i : Addr} {x t y : Int} : putK (stK l i x t) kRest (.int y) = stK l i y t := by
  obtain ⟨h1, h2, h3, h4, h5, h6⟩ := kneS
  unfold putK stK
  simp [h1, h2, h3, h4, h5, h6, h1.symm, h2.symm, h3.symm, h4.symm, h5.symm, h6.symm]
theorem put_turnS {l i : Addr} {x t y : Int} : putK (stK l i x t) kTurn (.int y) = stK l i x y := by
  obtain ⟨h1, h2, h3, h4, h5, h6⟩ := kneS
  unfold putK stK
  simp [h1, h2, h3, h4, h5, h6, h1.symm, h2.symm, h3.symm, h4.symm, h5.symm, h6.symm]
theorem merge_st {l i : Addr} {x t : Int} : mergeK [] (stK l i x t) = stK l i x t := by
  obtain ⟨h1, h2, h3, h4, h5, h6⟩ := kneS
  unfold mergeK stK
  simp [putK, h1, h2, h3, h4, h5, h6, h1.symm, h2.symm, h3.symm, h4.symm, h5.symm, h6.symm]
/-- a state stands at d, its large numbers at l.1, its cells at l.2; at most N turns were taken -/
structure StAt (H : Hp) (d : Addr) (l : LI) (N : Nat) : Prop where
  ex : ∃ (xs ls : List Int) (x t : Int), H d = some (.dK (stK l.1 l.2 x t)) ∧ H l.1 = some (.lst (ls.map V.int)) ∧ H l.2 = some (.lst (xs.map V.int)) ∧ l.2 ≠ l.1 ∧
    (∀ y ∈ ls, 0 ≤ y) ∧ xs.length < 100000 ∧ ls.length < 100000 ∧ 0 ≤ x ∧ 0 ≤ t ∧ t ≤ N
theorem StAt.same {H H' : Hp} {d : Addr} {l : LI} {N : Nat} (s : Same H H') (h : StAt H d l N) : StAt H' d l N := by
  obtain ⟨xs, ls, x, t, h1, h2, h3, r⟩ := h.ex
  exact ⟨xs, ls, x, t, s _ _ h1, s _ _ h2, s _ _ h3, r⟩
theorem StAt.le {H : Hp} {d : Addr} {l : LI} {N N' : Nat} (h : StAt H d l N) (e : N ≤ N') : StAt H d l N' := by
  obtain ⟨xs, ls, x, t, h1, h2, h3, h4, h5, h7, h8, h9, h10, h11⟩ := h.ex
  exact ⟨xs, ls, x, t, h1, h2, h3, h4, h5, h7, h8, h9, h10, by omega⟩
/-- the state's own, its list of cells too -/
def mSt (d : Addr) (l : LI) : Ms := fun b => b = d ∨ b = l.1 ∨ b = l.2
theorem StAt.own {H : Hp} {d : Addr} {l : LI} {N : Nat} (h : StAt H d l N) : Own (mSt d l) H := fun b m z => by
  obtain ⟨xs, ls, x, t, h1, h2, h3, _⟩ := h.ex
  rcases m with rfl | rfl | rfl
  · rw [h1] at z; cases z
  · rw [h2] at z; cases z
  · rw [h3] at z; cases z
theorem But.of_sameS {H H1 : Hp} {d : Addr} {l : LI} {N : Nat} (b : Same H H1) (h : StAt H d l N) : But d l.1 H H1 := by
  obtain ⟨xs, ls, x, t, h1, h2, h3, r⟩ := h.ex
  exact ⟨fun c o e n m => b c o e, Same.notnone b (by rw [h1]; simp), Same.notnone b (by rw [h2]; simp)⟩
theorem StAt.upd {H : Hp} {d : Addr} {l : LI} {N : Nat} {r : Addr} {o : HO} (h : StAt H d l N) (nd : r ≠ d) (n1 : r ≠ l.1) (n2 : r ≠ l.2) : StAt (upd H r o) d l N := by
  obtain ⟨xs, ls, x, t, h1, h2, h3, q⟩ := h.ex
  exact ⟨xs, ls, x, t, by rw [upd_ne nd.symm]; exact h1, by rw [upd_ne n1.symm]; exact h2, by rw [upd_ne n2.symm]; exact h3, q⟩
theorem StAt.apart {H : Hp} {d : Addr} {l : LI} {N : Nat} {r : Addr} (h : StAt H d l N) (n : H r = none) : r ≠ d ∧ r ≠ l.1 ∧ r ≠ l.2 := by
  obtain ⟨xs, ls, x, t, h1, h2, h3, q⟩ := h.ex
  exact ⟨(ne_of_none h1 n).symm, (ne_of_none h2 n).symm, (ne_of_none h3 n).symm⟩
theorem StAt.kept {H H' : Hp} {d r : Addr} {l : LI} {N : Nat} (k : ∀ b o, H b = some o → b ≠ r → H' b = some o) (rd : r ≠ d) (rl : r ≠ l.1) (ri : r ≠ l.2) (h : StAt H d l N) : StAt H' d l N := by
  obtain ⟨xs, ls, x, t, h1, h2, h3, z⟩ := h.ex
  exact ⟨xs, ls, x, t, k _ _ h1 rd.symm, k _ _ h2 rl.symm, k _ _ h3 ri.symm, z⟩
theorem StAt.ext {H H' : Hp} {d : Addr} {l : LI} {N : Nat} (t : LamX.ExtN H H') (h : StAt H d l N) : StAt H' d l N := by
  obtain ⟨xs, ls, x, y, h1, h2, h3, r⟩ := h.ex
  exact ⟨xs, ls, x, y, t _ _ h1 fun _ q => (by cases q), t _ _ h2 fun _ q => (by cases q), t _ _ h3 fun _ q => (by cases q), r⟩
section
variable {K : Fg} {H : Hp} {Q : VK} {d l i : Addr} {a b : Int}
theorem s_getLargeS (h : H d = some (.dK (stK l i a b))) (q : Q (.ref l) H) : rDGet (.ref d) (.str "large") H Q := s_dgetK (k := kLarge) h st_large q
theorem s_getCells (h : H d = some (.dK (stK l i a b))) (q : Q (.ref i) H) : rDGet (.ref d) (.str "cells") H Q := s_dgetK (k := kCells) h st_cells q
theorem s_getRest (h : H d = some (.dK (stK l i a b))) (q : Q (.int a) H) : rDGet (.ref d) (.str "rest") H Q := s_dgetK (k := kRest) h st_rest q
theorem s_getTurnS (h : H d = some (.dK (stK l i a b))) (q : Q (.int b) H) : rDGet (.ref d) (.str "turn") H Q := s_dgetK (k := kTurn) h st_turn q
theorem s_putRest {c : Int} {R : Hp → Prop} (h : H d = some (.dK (stK l i a b))) (q : R (upd H d (.dK (stK l i c b)))) : rDPut (.ref d) (.str "rest") (.int c) H R := s_dputK (k := kRest) h (by show 4 < sizeLine; decide) (by rw [put_rest]; exact q)
theorem s_putTurnS {c : Int} {R : Hp → Prop} (h : H d = some (.dK (stK l i a b))) (q : R (upd H d (.dK (stK l i a c)))) : rDPut (.ref d) (.str "turn") (.int c) H R := s_dputK (k := kTurn) h (by show 4 < sizeLine; decide) (by rw [put_turnS]; exact q)
end

/-! ## sizes of times and of positions apart -/
def KT (j k : Nat) (ks : List Kn) : Prop := ∀ p, p ∈ ks → BQ j p.1 ∧ BQ k p.2
theorem KT.get {j k : Nat} {ks : List Kn} (h : KT j k ks) {i : Nat} {a : Kn} (e : ks[i]? = some a) : BQ j a.1 ∧ BQ k a.2 := h a (List.mem_of_getElem? e)
theorem KT.kb {j k : Nat} {ks : List Kn} (h : KT j k ks) : KB (j + k) ks := fun p m => ⟨(h p m).1.mono (by omega), (h p m).2.mono (by omega)⟩
theorem KT.mono {j k j' k' : Nat} {ks : List Kn} (h : KT j k ks) (l : j ≤ j') (l' : k ≤ k') : KT j' k' ks := fun p m => ⟨(h p m).1.mono l, (h p m).2.mono l'⟩
theorem paceB_bt {j k : Nat} {ks : List Kn} (h : KT j k ks) (ha : Asc ks) (i : Nat) : BQ (2 * j + 2 * k + 2) (paceB ks i) := by
  unfold paceB
  split
  · rename_i a b ea eb
    have l := ha.get ea eb (Nat.lt_succ_self i)
    have h1 := h.get ea
    have h2 := h.get eb
    have := (h2.2.sub h1.2).div (h2.1.sub h1.1) (by
      intro z
      have : b.1 - a.1 > 0 := (Rat.lt_iff_sub_pos ..).mp l
      rw [z] at this
      exact absurd this (by decide))
    exact this.mono (by omega)
  · exact (bq_zero 0).mono (by omega)
theorem posAt_bt {j k m : Nat} {ks : List Kn} {t : Rat} (h : KT j k ks) (ha : Asc ks) (ht : BQ m t) : BQ (3 * j + 3 * k + m + 4) (posAt ks t) := by
  unfold posAt
  split
  · rename_i a ea
    have h1 := h.get ea
    exact (h1.2.add ((paceB_bt h ha _).mul (ht.sub h1.1))).mono (by omega)
  · exact (bq_zero 0).mono (by omega)
/-! ## laps, contacts, crossings, as the program counts them -/
def laterQ (a b : Rat) : Rat := if a < b then b else a
def sgnQ (x : Rat) : Int := if x < 0 then -1 else if 0 < x then 1 else 0
def lapsQ (L : Option Int) (x : Rat) : Int := match L with
  | none => if sgnQ x < 0 then -1 else 0
  | some l => x.num.fdiv ((x.den : Int) * l)
def togQ (L : Option Int) (x : Rat) : Bool := match L with
  | none => decide (x = 0)
  | some l => decide ((x.den : Int) = 1) && decide (x.num.fmod l = 0)
def belowQ (L : Option Int) (x : Rat) : Int := if togQ L x = true then lapsQ L x - 1 else lapsQ L x
theorem fdiv_abs {n d : Int} (h : 0 < d) : (n.fdiv d).natAbs ≤ n.natAbs := by
  rw [Int.fdiv_eq_ediv_of_nonneg _ (by omega)]
  rcases (show n < 0 ∨ 0 ≤ n by omega) with z | z
  · have h1 : n ≤ n / d := by
      rw [Int.le_ediv_iff_mul_le h]
      have := Int.mul_nonneg (show 0 ≤ -n by omega) (show 0 ≤ d - 1 by omega)
      simp only [Int.neg_mul, Int.mul_sub, Int.mul_one] at this
      omega
    have h2 : n / d < 0 := Int.ediv_neg_of_neg_of_pos z h
    omega
  · have h1 : n / d ≤ n := Int.ediv_le_self _ z
    have h2 : 0 ≤ n / d := Int.ediv_nonneg z (by omega)
    omega
theorem laps_bd {L : Option Int} {x : Rat} {j : Nat} (hL : ∀ l, L = some l → 1 ≤ l) (b : BQ j x) : Bd (j + 1) (lapsQ L x) := by
  cases L with
  | none =>
    unfold lapsQ
    have h2 : 2 ≤ 2 ^ (j + 1) := by rw [Nat.pow_succ]; have := Nat.two_pow_pos j; omega
    simp only
    split
    · unfold Bd; show 1 < _; omega
    · unfold Bd; show 0 < _; omega
  | some l =>
    have l1 := hL l rfl
    have hp : 0 < (x.den : Int) * l := Int.mul_pos (q_den_pos x) (by omega)
    have h1 := fdiv_abs (n := x.num) hp
    exact (b.1.of_le h1).mono (by omega)
theorem below_bd {L : Option Int} {x : Rat} {j : Nat} (hL : ∀ l, L = some l → 1 ≤ l) (b : BQ j x) : Bd (j + 2) (belowQ L x) := by
  have h := laps_bd hL b
  unfold belowQ
  split
  · have b1 : Bd (j + 1) 1 := by unfold Bd; rw [Nat.pow_succ]; have := Nat.two_pow_pos j; show 1 < _; omega
    exact h.sub b1
  · exact h.mono (by omega)
def turnQ (x : Rat) (s : Int) : Rat := (s : Rat) * x
theorem turn_parts {x : Rat} {s : Int} (h : s = 1 ∨ s = -1) : (turnQ x s).num = s * x.num ∧ (turnQ x s).den = x.den := by
  unfold turnQ
  rcases h with rfl | rfl
  · rw [show (((1 : Int) : Rat)) = 1 from rfl, Rat.one_mul, Int.one_mul]; exact ⟨rfl, rfl⟩
  · rw [show ((((-1 : Int)) : Rat)) = -1 from rfl, Rat.neg_mul, Rat.one_mul, Rat.neg_num, Rat.neg_den]; exact ⟨by omega, rfl⟩
theorem turn_bq {x : Rat} {s : Int} {j : Nat} (h : s = 1 ∨ s = -1) (b : BQ j x) : BQ j (turnQ x s) := by
  have e := turn_parts (x := x) h
  refine ⟨?_, ?_⟩
  · show Bd j (turnQ x s).num
    rw [e.1]
    rcases h with rfl | rfl
    · rw [Int.one_mul]; exact b.1
    · rw [show -1 * x.num = -x.num by omega]; exact b.1.neg
  · show Bd j ((turnQ x s).den : Int)
    rw [e.2]; exact b.2
theorem sgn_cases (x : Rat) : sgnQ x = 0 ∨ sgnQ x = 1 ∨ sgnQ x = -1 := by
  unfold sgnQ
  split
  · exact .inr (.inr rfl)
  · split
    · exact .inr (.inl rfl)
    · exact .inl rfl
structure Ct where
  b : Rat
  e : Option Rat
  before : Int
  after : Int
def xAt (ks : List Kn) (k : Nat) : Rat := (ks.getD k (0, 0)).2
def tAt (ks : List Kn) (k : Nat) : Rat := (ks.getD k (0, 0)).1
def contactQ (ks : List Kn) (k : Nat) (L : Option Int) : Option Ct :=
  let before : Int := if k = 0 then 0 else -sgnQ (paceB ks (k - 1))
  if (0 < k ∧ before = 0) ∨ togQ L (xAt ks k) = false then none
  else
    let last := if sgnQ (paceB ks k) ≠ 0 then k else k + 1
    if last = ks.length then some ⟨tAt ks k, none, before, 0⟩ else some ⟨tAt ks k, some (tAt ks last), before, sgnQ (paceB ks last)⟩
def endsQ (c : Ct) (t : Rat) : Bool := match c.e with | none => false | some e => decide (e < t)
def crossQ (c : Ct) : Bool := !decide (c.before = 0) && !decide (c.after = 0) && !decide (c.before = c.after)
def growthAtQ (ks : List Kn) (k : Nat) (L : Option Int) (t : Rat) : Int := match contactQ ks k L with
  | none => 0
  | some c => if crossQ c && endsQ c t then c.after else 0
theorem growthAt0 {ks : List Kn} {k : Nat} {L : Option Int} {t : Rat} (h : contactQ ks k L = none) : growthAtQ ks k L t = 0 := by unfold growthAtQ; rw [h]
theorem growthAt1 {ks : List Kn} {k : Nat} {L : Option Int} {t : Rat} {c : Ct} (h : contactQ ks k L = some c) : growthAtQ ks k L t = if crossQ c && endsQ c t then c.after else 0 := by unfold growthAtQ; rw [h]
def growthBtQ (ks : List Kn) (k : Nat) (L : Option Int) (t : Rat) : Int :=
  let side := sgnQ (paceB ks k)
  if side = 0 ∨ t ≤ tAt ks k then 0
  else
    let high := if t < tAt ks (k + 1) then posAt ks t else xAt ks (k + 1)
    side * (belowQ L (turnQ high side) - lapsQ L (turnQ (xAt ks k) side))
def growthsQ (ks : List Kn) (L : Option Int) (t : Rat) : List Int := (List.range ks.length).map (fun k => growthAtQ ks k L t) ++ (List.range ks.length).map (fun k => growthBtQ ks k L t)
def forwardQ (gs : List Int) : Int := (gs.filter fun g => decide (0 < g)).sum
def backwardQ (gs : List Int) : Int := -(gs.filter fun g => decide (g < 0)).sum
/-! ## two ascending lists of times in one; the knots of a gap -/
def mergeQ : List Rat → List Rat → List Rat
  | [], os => os
  | t :: ts, os => os.takeWhile (fun o => decide (o < t)) ++ t :: mergeQ ts (os.dropWhile fun o => decide (o < t))
theorem merge_lt {o t : Rat} {ts os : List Rat} (h : o < t) : mergeQ (t :: ts) (o :: os) = o :: mergeQ (t :: ts) os := by
  have e : ∀ os, mergeQ (t :: ts) os = os.takeWhile (fun o => decide (o < t)) ++ t :: mergeQ ts (os.dropWhile fun o => decide (o < t)) := fun _ => rfl
  rw [e, e, List.takeWhile_cons, List.dropWhile_cons, decide_eq_true h, if_pos rfl, if_pos rfl]
  rfl
theorem merge_ge {t : Rat} {ts os : List Rat} (h : ∀ o, os[0]? = some o → ¬ o < t) : mergeQ (t :: ts) os = t :: mergeQ ts os := by
  have e : ∀ os, mergeQ (t :: ts) os = os.takeWhile (fun o => decide (o < t)) ++ t :: mergeQ ts (os.dropWhile fun o => decide (o < t)) := fun _ => rfl
  rw [e]
  cases os with
  | nil => rfl
  | cons o os =>
    rw [List.takeWhile_cons, List.dropWhile_cons, decide_eq_false (h o rfl), if_neg Bool.false_ne_true, if_neg Bool.false_ne_true]
    rfl
/-- s, and of ts what is above all before it -/
def risingQ (s : Rat) : List Rat → List Rat
  | [] => [s]
  | t :: ts => if s < t then s :: risingQ t ts else risingQ s ts
def gapTimes (ks ls : List Kn) : List Rat := risingQ (laterQ (tAt ks 0) (tAt ls 0)) (mergeQ (ks.map (·.1)) (ls.map (·.1)))
def gapK (ks ls : List Kn) : List Kn := (gapTimes ks ls).map fun t => (t, posAt ks t - posAt ls t)
theorem later_l (a b : Rat) : a ≤ laterQ a b := by
  unfold laterQ
  split
  · rename_i h; exact Std.le_of_lt h
  · exact Rat.le_refl
theorem later_r (a b : Rat) : b ≤ laterQ a b := by
  unfold laterQ
  split
  · exact Rat.le_refl
  · rename_i h; exact Rat.not_lt.mp h
theorem rising_ge : ∀ (ts : List Rat) (s : Rat), ∀ u ∈ risingQ s ts, s ≤ u
  | [], s, u, h => by rw [List.mem_singleton.mp h]; exact Rat.le_refl
  | t :: ts, s, u, h => by
    unfold risingQ at h
    split at h
    · rename_i l
      rcases List.mem_cons.mp h with rfl | h
      · exact Rat.le_refl
      · exact Rat.le_trans (Std.le_of_lt l) (rising_ge ts t u h)
    · exact rising_ge ts s u h
theorem rising_asc : ∀ (ts : List Rat) (s : Rat), (risingQ s ts).Pairwise (· < ·)
  | [], s => List.pairwise_singleton ..
  | t :: ts, s => by
    unfold risingQ
    split
    · rename_i l
      exact List.pairwise_cons.mpr ⟨fun u h => Std.lt_of_lt_of_le l (rising_ge ts t u h), rising_asc ts t⟩
    · exact rising_asc ts s
theorem rising_mem : ∀ (ts : List Rat) (s : Rat), ∀ u ∈ risingQ s ts, u = s ∨ u ∈ ts
  | [], s, u, h => .inl (List.mem_singleton.mp h)
  | t :: ts, s, u, h => by
    unfold risingQ at h
    split at h
    · rcases List.mem_cons.mp h with rfl | h
      · exact .inl rfl
      · rcases rising_mem ts t u h with rfl | h
        · exact .inr (List.mem_cons_self ..)
        · exact .inr (List.mem_cons_of_mem _ h)
    · rcases rising_mem ts s u h with h | h
      · exact .inl h
      · exact .inr (List.mem_cons_of_mem _ h)
theorem rising_len : ∀ (ts : List Rat) (s : Rat), (risingQ s ts).length ≤ ts.length + 1
  | [], s => by simp [risingQ]
  | t :: ts, s => by
    unfold risingQ
    split
    · have := rising_len ts t
      simp only [List.length_cons]
      omega
    · have := rising_len ts s
      simp only [List.length_cons]
      omega
theorem rising_pos (ts : List Rat) (s : Rat) : 0 < (risingQ s ts).length := by
  cases ts with
  | nil => simp [risingQ]
  | cons t ts =>
    unfold risingQ
    split
    · simp
    · exact rising_pos ts s
theorem merge_mem : ∀ (ts os : List Rat), ∀ u ∈ mergeQ ts os, u ∈ ts ∨ u ∈ os
  | [], os, u, h => .inr h
  | t :: ts, os, u, h => by
    have h : u ∈ os.takeWhile (fun o => decide (o < t)) ++ t :: mergeQ ts (os.dropWhile fun o => decide (o < t)) := h
    rcases List.mem_append.mp h with h | h
    · exact .inr ((List.takeWhile_sublist _).subset h)
    · rcases List.mem_cons.mp h with rfl | h
      · exact .inl (List.mem_cons_self ..)
      · rcases merge_mem ts _ u h with h | h
        · exact .inl (List.mem_cons_of_mem _ h)
        · exact .inr ((List.dropWhile_sublist _).subset h)
theorem merge_len : ∀ (ts os : List Rat), (mergeQ ts os).length = ts.length + os.length
  | [], os => by show os.length = 0 + os.length; omega
  | t :: ts, os => by
    show (os.takeWhile (fun o => decide (o < t)) ++ t :: mergeQ ts (os.dropWhile fun o => decide (o < t))).length = _
    have h := congrArg List.length (List.takeWhile_append_dropWhile (p := fun o => decide (o < t)) (l := os))
    rw [List.length_append] at h
    rw [List.length_append, List.length_cons, merge_len ts, List.length_cons]
    omega
/-- what a gap's times are -/
theorem gap_times {ks ls : List Kn} {j m : Nat} (h1 : KT j m ks) (h2 : KT j m ls) (l1 : 0 < ks.length) (l2 : 0 < ls.length) : (gapTimes ks ls).Pairwise (· < ·) ∧ 0 < (gapTimes ks ls).length ∧ (gapTimes ks ls).length ≤ ks.length + ls.length + 1 ∧ ∀ t ∈ gapTimes ks ls, BQ j t ∧ tAt ks 0 ≤ t ∧ tAt ls 0 ≤ t := by
  unfold gapTimes
  have m1 : tAt ks 0 ∈ ks.map (·.1) := by unfold tAt; rw [List.getD_eq_getElem?_getD, List.getElem?_eq_getElem l1]; exact List.mem_map.mpr ⟨_, List.getElem_mem l1, rfl⟩
  have m2 : tAt ls 0 ∈ ls.map (·.1) := by unfold tAt; rw [List.getD_eq_getElem?_getD, List.getElem?_eq_getElem l2]; exact List.mem_map.mpr ⟨_, List.getElem_mem l2, rfl⟩
  have hb1 : ∀ t ∈ ks.map (·.1), BQ j t := fun t ht => by obtain ⟨p, hp, rfl⟩ := List.mem_map.mp ht; exact (h1 p hp).1
  have hb2 : ∀ t ∈ ls.map (·.1), BQ j t := fun t ht => by obtain ⟨p, hp, rfl⟩ := List.mem_map.mp ht; exact (h2 p hp).1
  refine ⟨rising_asc _ _, rising_pos _ _, ?_, fun t ht => ⟨?_, ?_, ?_⟩⟩
  · have := rising_len (mergeQ (ks.map (·.1)) (ls.map (·.1))) (laterQ (tAt ks 0) (tAt ls 0))
    rw [merge_len, List.length_map, List.length_map] at this
    exact this
  · rcases rising_mem _ _ t ht with rfl | h
    · unfold laterQ
      split
      · exact hb2 _ m2
      · exact hb1 _ m1
    · rcases merge_mem _ _ t h with h | h
      · exact hb1 _ h
      · exact hb2 _ h
  · exact Rat.le_trans (later_l _ _) (rising_ge _ _ t ht)
  · exact Rat.le_trans (later_r _ _) (rising_ge _ _ t ht)
theorem gap_len (ks ls : List Kn) : (gapK ks ls).length = (gapTimes ks ls).length := by unfold gapK; rw [List.length_map]
theorem gap_asc {ks ls : List Kn} : Asc (gapK ks ls) := by
  unfold Asc gapK
  rw [List.pairwise_map]
  exact rising_asc _ _
theorem gap_kt {ks ls : List Kn} {j m : Nat} (h1 : KT j m ks) (h2 : KT j m ls) (a1 : Asc ks) (a2 : Asc ls) (l1 : 0 < ks.length) (l2 : 0 < ls.length) : KT j (8 * j + 6 * m + 9) (gapK ks ls) := by
  intro p hp
  obtain ⟨t, ht, rfl⟩ := List.mem_map.mp hp
  have h := (gap_times h1 h2 l1 l2).2.2.2 t ht
  exact ⟨h.1, ((posAt_bt h1 a1 h.1).sub (posAt_bt h2 a2 h.1)).mono (by omega)⟩
theorem plain_mem {ks : List Kn} : ∀ p ∈ plainK ks, p ∈ ks := by
  intro p hp
  unfold plainK at hp
  rcases List.mem_append.mp hp with h | h
  · exact List.mem_of_mem_take h
  · obtain ⟨i, hi, rfl⟩ := List.mem_map.mp h
    have hi := List.mem_range.mp (List.mem_filter.mp hi).1
    rw [List.getD_eq_getElem?_getD, List.getElem?_eq_getElem (show i + 1 < ks.length by omega)]
    exact List.getElem_mem _
theorem plain_asc {ks : List Kn} (h : Asc ks) : Asc (plainK ks) := by
  unfold plainK
  have g : ∀ i, i + 1 < ks.length → ks[i + 1]? = some (ks.getD (i + 1) (0, 0)) := fun i hi => by rw [List.getD_eq_getElem?_getD, List.getElem?_eq_getElem hi]; rfl
  unfold Asc
  rw [List.pairwise_append]
  refine ⟨?_, ?_, ?_⟩
  · exact List.Pairwise.sublist (List.take_sublist ..) h
  · rw [List.pairwise_map]
    refine List.Pairwise.filter _ ?_
    refine List.Pairwise.imp_of_mem ?_ (List.pairwise_lt_range (n := ks.length - 1))
    intro a b ha hb hab
    have ha := List.mem_range.mp ha
    have hb := List.mem_range.mp hb
    exact h.get (g a (by omega)) (g b (by omega)) (by omega)
  · intro a ha b hb
    obtain ⟨i, hi, rfl⟩ := List.mem_map.mp hb
    have hi := List.mem_range.mp (List.mem_filter.mp hi).1
    have e0 : ks[0]? = some a := by
      cases ks with
      | nil => simp at ha
      | cons c r => simp at ha; subst ha; rfl
    exact h.get e0 (g i (by omega)) (by omega)
theorem plain_len (ks : List Kn) : (plainK ks).length ≤ ks.length + 1 := by
  unfold plainK
  have h1 := List.length_filter_le (fun i => !decide (paceB ks i = paceB ks (i + 1))) (List.range (ks.length - 1))
  rw [List.length_range] at h1
  rw [List.length_append, List.length_map, List.length_take]
  omega
theorem plain_head {ks : List Kn} {a : Kn} (h : ks[0]? = some a) : (plainK ks)[0]? = some a := by
  cases ks with
  | nil => simp at h
  | cons c r => simp at h; subst h; rfl
theorem KT.plain {ks : List Kn} {j m : Nat} (h : KT j m ks) : KT j m (plainK ks) := fun p hp => h p (plain_mem p hp)
theorem sgn_ord {x : Rat} : sgnQ x = (if x < 0 then -1 else if 0 < x then 1 else 0) := rfl

/-! ## the net of all crossings -/
theorem contactQ_no {ks : List Kn} {k : Nat} {L : Option Int} (h : (0 < k ∧ (if k = 0 then (0 : Int) else -sgnQ (paceB ks (k - 1))) = 0) ∨ togQ L (xAt ks k) = false) : contactQ ks k L = none := by
  unfold contactQ
  simp only
  rw [if_pos h]
theorem contactQ_open {ks : List Kn} {k : Nat} {L : Option Int} (h : ¬ ((0 < k ∧ (if k = 0 then (0 : Int) else -sgnQ (paceB ks (k - 1))) = 0) ∨ togQ L (xAt ks k) = false)) (hl : (if sgnQ (paceB ks k) ≠ 0 then k else k + 1) = ks.length) : contactQ ks k L = some ⟨tAt ks k, none, (if k = 0 then (0 : Int) else -sgnQ (paceB ks (k - 1))), 0⟩ := by
  unfold contactQ
  simp only
  rw [if_neg h, if_pos hl]
theorem contactQ_shut {ks : List Kn} {k : Nat} {L : Option Int} (h : ¬ ((0 < k ∧ (if k = 0 then (0 : Int) else -sgnQ (paceB ks (k - 1))) = 0) ∨ togQ L (xAt ks k) = false)) (hl : ¬ (if sgnQ (paceB ks k) ≠ 0 then k else k + 1) = ks.length) : contactQ ks k L = some ⟨tAt ks k, some (tAt ks (if sgnQ (paceB ks k) ≠ 0 then k else k + 1)), (if k = 0 then (0 : Int) else -sgnQ (paceB ks (k - 1))), sgnQ (paceB ks (if sgnQ (paceB ks k) ≠ 0 then k else k + 1))⟩ := by
  unfold contactQ
  simp only
  rw [if_neg h, if_neg hl]

def LOk (L : Option Int) : Prop := ∀ l, L = some l → 1 ≤ l
def Plain (ks : List Kn) : Prop := ∀ k, k + 1 < ks.length → paceB ks k ≠ paceB ks (k + 1)
theorem tog_dvd {l : Int} (h : 1 ≤ l) (x : Rat) : togQ (some l) x = true ↔ (x.den : Int) * l ∣ x.num := by
  unfold togQ
  simp only [Bool.and_eq_true, decide_eq_true_eq]
  rw [Int.fmod_eq_emod_of_nonneg _ (by omega)]
  constructor
  · rintro ⟨h1, h2⟩
    rw [h1, Int.one_mul]
    exact Int.dvd_of_emod_eq_zero h2
  · intro hd
    have h1 : (x.den : Int) ∣ x.num := Int.dvd_trans (Int.dvd_mul_right _ _) hd
    have h2 : x.den ∣ x.num.natAbs := Int.natAbs_dvd_natAbs.mpr h1
    have h3 : x.den ∣ 1 := by
      have := Nat.dvd_gcd h2 (Nat.dvd_refl x.den)
      have r := x.reduced
      unfold Nat.Coprime at r
      rwa [r] at this
    have h4 : x.den = 1 := Nat.dvd_one.mp h3
    rw [h4] at hd
    refine ⟨by omega, Int.emod_eq_zero_of_dvd ?_⟩
    have e : ((1 : Nat) : Int) * l = l := by omega
    rwa [e] at hd
theorem sgn_lt {x : Rat} (h : x < 0) : sgnQ x = -1 := by unfold sgnQ; rw [if_pos h]
theorem sgn_gt {x : Rat} (h : 0 < x) : sgnQ x = 1 := by unfold sgnQ; rw [if_neg (by grind), if_pos h]
/-- the laps of the two exchanged -/
theorem laps_neg {L : Option Int} (h : LOk L) (x : Rat) : lapsQ L (-x) = -1 - belowQ L x := by
  cases L with
  | none =>
    unfold belowQ lapsQ togQ
    simp only
    rcases Std.lt_trichotomy x 0 with z | z | z
    · rw [sgn_lt z, sgn_gt (show 0 < -x by grind), decide_eq_false (show ¬ x = 0 by grind)]
      decide
    · subst z
      decide +kernel
    · rw [sgn_gt z, sgn_lt (show -x < 0 by grind), decide_eq_false (show ¬ x = 0 by grind)]
      decide
  | some l =>
    have l1 := h l rfl
    have hp : 0 < (x.den : Int) * l := Int.mul_pos (q_den_pos x) (by omega)
    have e1 : lapsQ (some l) (-x) = (-x.num) / ((x.den : Int) * l) := by
      unfold lapsQ
      simp only [Rat.neg_num, Rat.neg_den]
      exact Int.fdiv_eq_ediv_of_nonneg _ (by omega)
    have e2 : lapsQ (some l) x = x.num / ((x.den : Int) * l) := by
      unfold lapsQ
      exact Int.fdiv_eq_ediv_of_nonneg _ (by omega)
    unfold belowQ
    rw [e1, e2, Int.neg_ediv, Int.sign_eq_one_of_pos hp]
    by_cases hd : (x.den : Int) * l ∣ x.num
    · rw [if_pos hd, if_pos ((tog_dvd l1 x).mpr hd)]; omega
    · rw [if_neg hd, if_neg (fun z => hd ((tog_dvd l1 x).mp z))]; omega
theorem tog_neg {L : Option Int} (h : LOk L) (x : Rat) : togQ L (-x) = togQ L x := by
  cases L with
  | none =>
    unfold togQ
    simp only
    exact decide_eq_decide.mpr ⟨fun z => by grind, fun z => by grind⟩
  | some l =>
    unfold togQ
    simp only [Rat.neg_num, Rat.neg_den]
    congr 1
    refine decide_eq_decide.mpr ?_
    have l1 := h l rfl
    rw [Int.fmod_eq_emod_of_nonneg _ (by omega), Int.fmod_eq_emod_of_nonneg _ (by omega)]
    constructor
    · intro z
      have := Int.dvd_of_emod_eq_zero z
      exact Int.emod_eq_zero_of_dvd (Int.dvd_neg.mp this)
    · intro z
      exact Int.emod_eq_zero_of_dvd (Int.dvd_neg.mpr (Int.dvd_of_emod_eq_zero z))
theorem below_neg {L : Option Int} (h : LOk L) (x : Rat) : belowQ L (-x) = -1 - lapsQ L x := by
  have h1 := laps_neg h x
  have h2 := laps_neg h (-x)
  rw [Rat.neg_neg] at h2
  omega
theorem below_not {L : Option Int} {x : Rat} (h : togQ L x = false) : belowQ L x = lapsQ L x := by
  unfold belowQ
  rw [h, if_neg Bool.false_ne_true]
theorem below_tog {L : Option Int} {x : Rat} (h : togQ L x = true) : belowQ L x = lapsQ L x - 1 := by
  unfold belowQ
  rw [h, if_pos rfl]
theorem turn_one (x : Rat) : turnQ x 1 = x := by unfold turnQ; rw [show (((1 : Int) : Rat)) = 1 from rfl, Rat.one_mul]
theorem turn_neg (x : Rat) : turnQ x (-1) = -x := by unfold turnQ; rw [show ((((-1 : Int)) : Rat)) = -1 from rfl, Rat.neg_mul, Rat.one_mul]
/-- a piece's growth, by the laps at its ends -/
def endL (L : Option Int) (s : Int) (x : Rat) : Int := if s = 1 then belowQ L x else lapsQ L x
def startL (L : Option Int) (s : Int) (x : Rat) : Int := if s = 1 then lapsQ L x else belowQ L x
theorem piece {L : Option Int} (h : LOk L) {s : Int} (hs : s = 1 ∨ s = -1) (x y : Rat) : s * (belowQ L (turnQ y s) - lapsQ L (turnQ x s)) = endL L s y - startL L s x := by
  unfold endL startL
  rcases hs with rfl | rfl
  · rw [turn_one, turn_one, if_pos rfl, if_pos rfl]; omega
  · rw [turn_neg, turn_neg, if_neg (by decide), if_neg (by decide), below_neg h, laps_neg h]; omega
/-- the laps just behind knot k, when its contact is over -/
def nextS (ks : List Kn) (k : Nat) : Int := if sgnQ (paceB ks k) ≠ 0 then sgnQ (paceB ks k) else sgnQ (paceB ks (k + 1))
def AL (ks : List Kn) (L : Option Int) (k : Nat) : Int := startL L (nextS ks k) (xAt ks k)
theorem start_not {L : Option Int} {s : Int} {x : Rat} (h : togQ L x = false) : startL L s x = lapsQ L x := by
  unfold startL
  split
  · rfl
  · exact below_not h
theorem end_not {L : Option Int} {s : Int} {x : Rat} (h : togQ L x = false) : endL L s x = lapsQ L x := by
  unfold endL
  split
  · exact below_not h
  · rfl
theorem sgn_zero {x : Rat} : sgnQ x = 0 ↔ x = 0 := by
  unfold sgnQ
  constructor
  · intro h
    split at h
    · omega
    · split at h
      · omega
      · rename_i h1 h2
        have := Rat.not_lt.mp h1
        have := Rat.not_lt.mp h2
        grind
  · intro h
    subst h
    rfl
theorem get_at {ks : List Kn} {k : Nat} (h : k < ks.length) : ks[k]? = some (tAt ks k, xAt ks k) := by
  unfold tAt xAt
  rw [List.getD_eq_getElem?_getD, List.getElem?_eq_getElem h]
  rfl
theorem t_lt {ks : List Kn} (ha : Asc ks) {i j : Nat} (l : i < j) (h : j < ks.length) : tAt ks i < tAt ks j := ha.get (get_at (show i < ks.length by omega)) (get_at h) l
/-- a piece is straight -/
theorem pos_piece {ks : List Kn} (ha : Asc ks) {k : Nat} (h : k < ks.length) {v : Rat} (l : tAt ks k ≤ v) (u : k + 1 < ks.length → v ≤ tAt ks (k + 1)) : posAt ks v = xAt ks k + paceB ks k * (v - tAt ks k) := by
  have e := get_at h
  have e0 := get_at (show 0 < ks.length by omega)
  have h0 : tAt ks 0 ≤ tAt ks k := by
    rcases Nat.eq_zero_or_pos k with rfl | z
    · exact Rat.le_refl
    · exact Std.le_of_lt (t_lt ha z h)
  have h1 := pos_lin ha e0 h0 l (fun c hc ⟨c1, c2⟩ => by
    obtain ⟨i, hi, rfl⟩ := List.mem_iff_getElem.mp hc
    have ei := get_at hi
    rw [List.getElem?_eq_getElem hi] at ei
    have ei := Option.some.inj ei
    rw [ei] at c1 c2
    rcases Nat.lt_or_ge k i with z | z
    · have l2 := u (by omega)
      have : tAt ks (k + 1) ≤ tAt ks i := by
        rcases Nat.lt_or_ge (k + 1) i with w | w
        · exact Std.le_of_lt (t_lt ha w hi)
        · rw [show i = k + 1 by omega]; exact Rat.le_refl
      exact absurd (Std.lt_of_lt_of_le c2 (Rat.le_trans l2 this)) Rat.lt_irrefl
    · rcases Nat.lt_or_ge i k with w | w
      · exact absurd (Std.lt_trans c1 (t_lt ha w h)) Rat.lt_irrefl
      · rw [show i = k by omega] at c1
        exact absurd c1 Rat.lt_irrefl)
  rw [h1, cnt_knot ha e, show k + 1 - 1 = k by omega]
  have := pos_knot ha (List.mem_of_getElem? e)
  rw [this]
theorem pace_last {ks : List Kn} {k : Nat} (h : k + 1 = ks.length) : paceB ks k = 0 := by
  unfold paceB
  rw [List.getElem?_eq_none (by omega : ks.length ≤ k + 1)]
  split
  · rename_i h; cases h
  · rfl
/-- where the pace is 0, the next knot is at the same place -/
theorem flat_next {ks : List Kn} (ha : Asc ks) {k : Nat} (h : k + 1 < ks.length) (z : paceB ks k = 0) : xAt ks (k + 1) = xAt ks k := by
  have h1 := pos_piece ha (k := k) (by omega) (Std.le_of_lt (t_lt ha (Nat.lt_succ_self k) h)) (fun _ => Rat.le_refl)
  have h2 := pos_knot ha (List.mem_of_getElem? (get_at h))
  rw [h2, z, Rat.zero_mul, Rat.add_zero] at h1
  exact h1
theorem cross_val {L : Option Int} {x : Rat} (ht : togQ L x = true) {s s' : Int} (hs : s = 1 ∨ s = -1) (hs' : s' = 1 ∨ s' = -1) (b : Rat) (e : Option Rat) : (if crossQ ⟨b, e, -s, s'⟩ = true then s' else 0) = startL L s' x - endL L s x := by
  have hb := below_tog ht
  unfold startL endL
  rcases hs with rfl | rfl <;> rcases hs' with rfl | rfl <;> simp [crossQ] <;> omega
theorem nextS_pm {ks : List Kn} (hp : Plain ks) {k : Nat} (h : k < ks.length) (hl : sgnQ (paceB ks k) = 0 → k + 1 < ks.length) : nextS ks k = 1 ∨ nextS ks k = -1 := by
  unfold nextS
  split
  · rename_i z
    exact (sgn_cases _).resolve_left z
  · rename_i z
    have z : sgnQ (paceB ks k) = 0 := by simpa using z
    have h1 := hl z
    have h2 := hp k h1
    refine (sgn_cases _).resolve_left fun w => h2 ?_
    rw [sgn_zero.mp z, sgn_zero.mp w]
/-- what grows at a knot: from the laps just before it to those behind its contact -/
theorem gA_step {ks : List Kn} {L : Option Int} {t : Rat} (ha : Asc ks) (hp : Plain ks) (hn : togQ L (posAt ks t) = false) {k : Nat} (h : k + 1 < ks.length) (lt : tAt ks (k + 1) < t) :
    growthAtQ ks (k + 1) L t = if sgnQ (paceB ks k) = 0 then 0 else AL ks L (k + 1) - endL L (sgnQ (paceB ks k)) (xAt ks (k + 1)) := by
  have hb : (if k + 1 = 0 then (0 : Int) else -sgnQ (paceB ks (k + 1 - 1))) = -sgnQ (paceB ks k) := by rw [if_neg (by omega), show k + 1 - 1 = k by omega]
  by_cases hs0 : sgnQ (paceB ks k) = 0
  · rw [if_pos hs0]
    refine growthAt0 (contactQ_no (.inl ⟨by omega, ?_⟩))
    rw [hb, hs0]
    rfl
  · rw [if_neg hs0]
    have hs := (sgn_cases (paceB ks k)).resolve_left hs0
    cases ht : togQ L (xAt ks (k + 1)) with
    | false =>
      rw [growthAt0 (contactQ_no (.inr ht))]
      unfold AL
      rw [start_not ht, end_not ht]
      omega
    | true =>
      have hno : ¬ ((0 < k + 1 ∧ (if k + 1 = 0 then (0 : Int) else -sgnQ (paceB ks (k + 1 - 1))) = 0) ∨ togQ L (xAt ks (k + 1)) = false) := by
        rw [hb]
        rintro (⟨_, z⟩ | z)
        · exact hs0 (by omega)
        · rw [ht] at z; cases z
      have flat : sgnQ (paceB ks (k + 1)) = 0 → ∃ _ : k + 2 < ks.length, tAt ks (k + 2) < t := by
        intro z
        have pz := sgn_zero.mp z
        by_cases hl : k + 2 < ks.length
        · refine ⟨hl, Rat.not_le.mp fun w => ?_⟩
          have := pos_piece ha (k := k + 1) h (Std.le_of_lt lt) (fun _ => w)
          rw [pz, Rat.zero_mul, Rat.add_zero] at this
          rw [this, ht] at hn
          cases hn
        · exfalso
          have := pos_piece ha (k := k + 1) h (Std.le_of_lt lt) (fun w => absurd w (by omega))
          rw [pz, Rat.zero_mul, Rat.add_zero] at this
          rw [this, ht] at hn
          cases hn
      have hpm := nextS_pm hp (k := k + 1) h (fun z => (flat z).1)
      have hlast : ¬ (if sgnQ (paceB ks (k + 1)) ≠ 0 then k + 1 else k + 1 + 1) = ks.length := by
        split
        · omega
        · rename_i z
          have := (flat (by simpa using z)).1
          omega
      rw [growthAt1 (contactQ_shut hno hlast), hb]
      have eN : sgnQ (paceB ks (if sgnQ (paceB ks (k + 1)) ≠ 0 then k + 1 else k + 1 + 1)) = nextS ks (k + 1) := by
        unfold nextS
        split <;> rfl
      have eE : endsQ ⟨tAt ks (k + 1), some (tAt ks (if sgnQ (paceB ks (k + 1)) ≠ 0 then k + 1 else k + 1 + 1)), -sgnQ (paceB ks k), nextS ks (k + 1)⟩ t = true := by
        show decide (_ < t) = true
        rw [decide_eq_true_eq]
        split
        · exact lt
        · rename_i z
          exact (flat (by simpa using z)).2
      rw [eN, eE, Bool.and_true]
      exact cross_val ht hs hpm _ _

/-! ## the sum of all growths -/
def sumTo (f : Nat → Int) (n : Nat) : Int := ((List.range n).map f).sum
theorem sum_succ (f : Nat → Int) (n : Nat) : sumTo f (n + 1) = sumTo f n + f n := by
  unfold sumTo
  rw [List.range_succ, List.map_append, List.sum_append]
  simp
theorem sum_zero (f : Nat → Int) : sumTo f 0 = 0 := rfl
theorem sum_tail {f : Nat → Int} {k : Nat} : ∀ n, k ≤ n → (∀ i, k ≤ i → i < n → f i = 0) → sumTo f n = sumTo f k
  | 0, l, _ => by rw [show k = 0 by omega]
  | n + 1, l, h => by
    by_cases z : k = n + 1
    · rw [z]
    · rw [sum_succ, h n (by omega) (by omega), sum_tail n (by omega) (fun i a b => h i a (by omega))]
      omega
theorem last_before {f : Nat → Rat} {t : Rat} (h : f 0 < t) : ∀ n, 0 < n → ∃ k, k < n ∧ f k < t ∧ ∀ i, k < i → i < n → t ≤ f i
  | 0, l => absurd l (Nat.lt_irrefl _)
  | n + 1, _ => by
    by_cases z : f n < t
    · exact ⟨n, by omega, z, fun i a b => by omega⟩
    · by_cases z0 : n = 0
      · subst z0; exact absurd h z
      · obtain ⟨k, a, b, c⟩ := last_before h n (by omega)
        refine ⟨k, by omega, b, fun i i1 i2 => ?_⟩
        rcases Nat.lt_or_ge i n with w | w
        · exact c i i1 w
        · rw [show i = n by omega]; exact Rat.not_lt.mp z
theorem gA_late {ks : List Kn} {L : Option Int} {t : Rat} (ha : Asc ks) {k : Nat} (h : k < ks.length) (l : t ≤ tAt ks k) : growthAtQ ks k L t = 0 := by
  by_cases hno : ((0 < k ∧ (if k = 0 then (0 : Int) else -sgnQ (paceB ks (k - 1))) = 0) ∨ togQ L (xAt ks k) = false)
  · exact growthAt0 (contactQ_no hno)
  · by_cases hl : (if sgnQ (paceB ks k) ≠ 0 then k else k + 1) = ks.length
    · rw [growthAt1 (contactQ_open hno hl)]
      show (if (_ && false) = true then _ else _) = _
      rw [Bool.and_false, if_neg Bool.false_ne_true]
    · rw [growthAt1 (contactQ_shut hno hl)]
      have : ¬ tAt ks (if sgnQ (paceB ks k) ≠ 0 then k else k + 1) < t := by
        intro w
        by_cases z : sgnQ (paceB ks k) ≠ 0
        · rw [if_pos z] at w
          exact absurd (Std.lt_of_lt_of_le w l) Rat.lt_irrefl
        · rw [if_neg z] at w hl
          have := t_lt ha (show k < k + 1 by omega) (by omega)
          exact absurd (Std.lt_of_lt_of_le (Std.lt_trans this w) l) Rat.lt_irrefl
      show (if (_ && decide (_ < t)) = true then _ else _) = _
      rw [decide_eq_false this, Bool.and_false, if_neg Bool.false_ne_true]
theorem gA_zero {ks : List Kn} {L : Option Int} {t : Rat} : growthAtQ ks 0 L t = 0 := by
  by_cases hno : ((0 < 0 ∧ (if 0 = 0 then (0 : Int) else -sgnQ (paceB ks (0 - 1))) = 0) ∨ togQ L (xAt ks 0) = false)
  · exact growthAt0 (contactQ_no hno)
  · by_cases hl : (if sgnQ (paceB ks 0) ≠ 0 then 0 else 0 + 1) = ks.length
    · rw [growthAt1 (contactQ_open hno hl)]
      rfl
    · rw [growthAt1 (contactQ_shut hno hl)]
      rfl
theorem gB_late {ks : List Kn} {L : Option Int} {t : Rat} {k : Nat} (l : t ≤ tAt ks k) : growthBtQ ks k L t = 0 := by
  unfold growthBtQ
  simp only
  rw [if_pos (.inr l)]
theorem gB_flat {ks : List Kn} {L : Option Int} {t : Rat} {k : Nat} (z : sgnQ (paceB ks k) = 0) : growthBtQ ks k L t = 0 := by
  unfold growthBtQ
  simp only
  rw [if_pos (.inl z)]
theorem gB_full {ks : List Kn} {L : Option Int} {t : Rat} (hL : LOk L) {k : Nat} (z : sgnQ (paceB ks k) ≠ 0) (l : tAt ks k < t) (u : ¬ t < tAt ks (k + 1)) : growthBtQ ks k L t = endL L (sgnQ (paceB ks k)) (xAt ks (k + 1)) - startL L (sgnQ (paceB ks k)) (xAt ks k) := by
  unfold growthBtQ
  simp only
  rw [if_neg (by rintro (w | w); exact z w; exact absurd (Std.lt_of_lt_of_le l w) Rat.lt_irrefl), if_neg u]
  exact piece hL ((sgn_cases _).resolve_left z) _ _
theorem gB_part {ks : List Kn} {L : Option Int} {t : Rat} (hL : LOk L) {k : Nat} (z : sgnQ (paceB ks k) ≠ 0) (l : tAt ks k < t) (u : t < tAt ks (k + 1)) : growthBtQ ks k L t = endL L (sgnQ (paceB ks k)) (posAt ks t) - startL L (sgnQ (paceB ks k)) (xAt ks k) := by
  unfold growthBtQ
  simp only
  rw [if_neg (by rintro (w | w); exact z w; exact absurd (Std.lt_of_lt_of_le l w) Rat.lt_irrefl), if_pos u]
  exact piece hL ((sgn_cases _).resolve_left z) _ _
theorem AL_side {ks : List Kn} {L : Option Int} {k : Nat} (z : sgnQ (paceB ks k) ≠ 0) : AL ks L k = startL L (sgnQ (paceB ks k)) (xAt ks k) := by
  unfold AL nextS
  rw [if_pos z]
theorem AL_flat {ks : List Kn} {L : Option Int} (ha : Asc ks) (hp : Plain ks) {k : Nat} (h : k + 1 < ks.length) (z : sgnQ (paceB ks k) = 0) : AL ks L (k + 1) = AL ks L k := by
  have h2 := hp k h
  have z' := sgn_zero.mp z
  have h3 : sgnQ (paceB ks (k + 1)) ≠ 0 := fun w => h2 (by rw [z', sgn_zero.mp w])
  rw [AL_side h3]
  unfold AL nextS
  rw [if_neg (by simpa using z), flat_next ha h z']
theorem net_to {ks : List Kn} {L : Option Int} {t : Rat} (hL : LOk L) (ha : Asc ks) (hp : Plain ks) (hn : togQ L (posAt ks t) = false) : ∀ k, k < ks.length → (k = 0 ∨ tAt ks k < t) → sumTo (fun k => growthAtQ ks k L t) (k + 1) + sumTo (fun k => growthBtQ ks k L t) k = AL ks L k - AL ks L 0
  | 0, h, _ => by
    rw [sum_succ, sum_zero, sum_zero, gA_zero]
    omega
  | k + 1, h, l => by
    have l : tAt ks (k + 1) < t := l.resolve_left (by omega)
    have lk : tAt ks k < t := Std.lt_trans (t_lt ha (Nat.lt_succ_self k) h) l
    have ih := net_to hL ha hp hn k (by omega) (.inr lk)
    rw [sum_succ _ (k + 1), sum_succ _ k]
    rw [sum_succ _ k] at ih
    rw [gA_step ha hp hn h l]
    rw [sum_succ]
    by_cases z : sgnQ (paceB ks k) = 0
    · rw [if_pos z, gB_flat z, AL_flat ha hp h z]
      omega
    · rw [if_neg z, gB_full hL z lk (fun w => absurd (Std.lt_trans l w) Rat.lt_irrefl), ← AL_side z]
      omega
theorem net {ks : List Kn} {L : Option Int} {t : Rat} (hL : LOk L) (ha : Asc ks) (hp : Plain ks) (h0 : 0 < ks.length) (l0 : tAt ks 0 ≤ t) (hn : togQ L (posAt ks t) = false) : (growthsQ ks L t).sum = lapsQ L (posAt ks t) - AL ks L 0 := by
  have e : (growthsQ ks L t).sum = sumTo (fun k => growthAtQ ks k L t) ks.length + sumTo (fun k => growthBtQ ks k L t) ks.length := by
    unfold growthsQ sumTo
    rw [List.sum_append]
  rw [e]
  rcases Std.le_iff_lt_or_eq.mp l0 with l | l
  · obtain ⟨k, hk, lk, hl⟩ := last_before (f := tAt ks) l ks.length h0
    rw [sum_tail (k := k + 1) _ (by omega) (fun i a b => gA_late ha b (hl i (by omega) b)), sum_tail (k := k + 1) _ (by omega) (fun i a b => gB_late (hl i (by omega) b)), sum_succ _ k]
    have h1 := net_to hL ha hp hn k hk (.inr lk)
    rw [sum_succ (fun k => growthBtQ ks k L t) k]
    rw [sum_succ _ k] at h1
    by_cases z : sgnQ (paceB ks k) = 0
    · rw [gB_flat z]
      have hx := pos_piece ha hk (Std.le_of_lt lk) (fun w => hl _ (by omega) w)
      rw [sgn_zero.mp z, Rat.zero_mul, Rat.add_zero] at hx
      have : AL ks L k = lapsQ L (posAt ks t) := by
        unfold AL
        rw [← hx, start_not hn]
      omega
    · have hk1 : k + 1 < ks.length := by
        rcases Nat.lt_or_ge (k + 1) ks.length with w | w
        · exact w
        · exact absurd (sgn_zero.mpr (pace_last (show k + 1 = ks.length by omega))) z
      have hB : growthBtQ ks k L t = endL L (sgnQ (paceB ks k)) (posAt ks t) - startL L (sgnQ (paceB ks k)) (xAt ks k) := by
        rcases Std.le_iff_lt_or_eq.mp (hl (k + 1) (by omega) hk1) with w | w
        · exact gB_part hL z lk w
        · rw [gB_full hL z lk (by rw [w]; exact Rat.lt_irrefl), w, pos_knot ha (List.mem_of_getElem? (get_at hk1))]
      rw [hB, ← AL_side z, end_not hn]
      omega
  · have le0 : ∀ i, i < ks.length → t ≤ tAt ks i := fun i b => by
      rw [← l]
      rcases Nat.eq_zero_or_pos i with rfl | w
      · exact Rat.le_refl
      · exact Std.le_of_lt (t_lt ha w b)
    have e1 := sum_tail (f := fun k => growthAtQ ks k L t) (k := 0) ks.length (by omega) (fun i a b => gA_late ha b (le0 i b))
    have e2 := sum_tail (f := fun k => growthBtQ ks k L t) (k := 0) ks.length (by omega) (fun i a b => gB_late (le0 i b))
    rw [e1, e2, sum_zero, sum_zero]
    have : AL ks L 0 = lapsQ L (posAt ks t) := by
      have := pos_knot ha (List.mem_of_getElem? (get_at h0))
      simp only at this
      rw [← l, this] at hn ⊢
      unfold AL
      rw [start_not hn]
    omega
theorem fb_sum : ∀ gs : List Int, forwardQ gs - backwardQ gs = gs.sum
  | [] => by decide
  | g :: gs => by
    have ih := fb_sum gs
    unfold forwardQ backwardQ at *
    rw [List.filter_cons, List.filter_cons, List.sum_cons]
    rcases (show g < 0 ∨ g = 0 ∨ 0 < g by omega) with z | z | z
    · rw [decide_eq_false (show ¬ 0 < g by omega), decide_eq_true z]
      simp only [if_true, Bool.false_eq_true, if_false, List.sum_cons]
      omega
    · rw [decide_eq_false (show ¬ 0 < g by omega), decide_eq_false (show ¬ g < 0 by omega)]
      simp only [Bool.false_eq_true, if_false]
      omega
    · rw [decide_eq_true z, decide_eq_false (show ¬ g < 0 by omega)]
      simp only [if_true, Bool.false_eq_true, if_false, List.sum_cons]
      omega

/-! ## plain knots are plain and tell the same positions; the positions of a gap -/
theorem plain_cons {a : Kn} {N : List Kn} (h : Plain N) (h0 : ∀ b M, N = b :: M → sl a b ≠ sl0 b M) : Plain (a :: N) := by
  intro k l
  cases k with
  | zero =>
    cases N with
    | nil => simp at l
    | cons b M =>
      rw [pace_zero, pace_shift, pace_zero]
      exact h0 b M rfl
  | succ k =>
    rw [pace_shift, pace_shift]
    exact h k (by simpa using l)
theorem plain_swap {a b : Kn} {N : List Kn} (h : Plain (b :: N)) (e : sl0 a N = sl0 b N) : Plain (a :: N) := by
  intro k l
  have h1 := h k l
  cases k with
  | zero =>
    rw [pace_zero, pace_shift] at h1 ⊢
    rwa [e]
  | succ k =>
    rw [pace_shift, pace_shift] at h1 ⊢
    exact h1
theorem go_plain : ∀ (M : List Kn) (a : Kn), Asc (a :: M) → Plain (a :: goK a M)
  | [], a, _ => fun k l => by simp [goK] at l
  | b :: M, a, h => by
    have h2 : Asc (b :: M) := (List.pairwise_cons.mp h).2
    have ih := go_plain M b h2
    have e0 := sl0_go (b :: M) a h
    have e1 := sl0_go M b h2
    rw [goK] at e0 ⊢
    by_cases z : sl a b = sl0 b M
    · rw [if_pos z] at e0 ⊢
      refine plain_swap ih ?_
      show sl0 a ([] ++ goK b M) = sl0 b (goK b M)
      rw [e0, e1]
      exact z
    · rw [if_neg z] at e0 ⊢
      refine plain_cons ih ?_
      intro c N e
      cases e
      show sl a b ≠ sl0 b (goK b M)
      rw [e1]
      exact z
theorem plain_plain {ks : List Kn} (h : Asc ks) : Plain (plainK ks) := by
  cases ks with
  | nil => intro k l; simp [plainK] at l
  | cons a M => rw [plain_go]; exact go_plain M a h
theorem posAt_plain {ks : List Kn} (h : Asc ks) {a : Kn} (e : ks[0]? = some a) {t : Rat} (l : a.1 ≤ t) : posAt (plainK ks) t = posAt ks t := by
  cases ks with
  | nil => simp at e
  | cons b M =>
    cases e
    have := plain_asc h
    rw [plain_go] at this ⊢
    rw [posAt_F _ _ _ this l, posAt_F _ _ _ h l, F_go M _ t h l]
/-! ### times in one -/
theorem take_lt {t : Rat} : ∀ {os : List Rat}, ∀ u ∈ os.takeWhile (fun o => decide (o < t)), u < t
  | [], u, h => by simp at h
  | o :: os, u, h => by
    rw [List.takeWhile_cons] at h
    split at h
    · rename_i z
      rcases List.mem_cons.mp h with rfl | h
      · exact of_decide_eq_true z
      · exact take_lt u h
    · simp at h
theorem drop_ge {t : Rat} : ∀ {os : List Rat}, os.Pairwise (· ≤ ·) → ∀ u ∈ os.dropWhile (fun o => decide (o < t)), t ≤ u
  | [], _, u, h => by simp at h
  | o :: os, hs, u, h => by
    rw [List.dropWhile_cons] at h
    obtain ⟨h1, h2⟩ := List.pairwise_cons.mp hs
    split at h
    · exact drop_ge h2 u h
    · rename_i z
      have z : ¬ o < t := by simpa using z
      rcases List.mem_cons.mp h with rfl | h
      · exact Rat.not_lt.mp z
      · exact Rat.le_trans (Rat.not_lt.mp z) (h1 u h)
theorem merge_asc : ∀ (ts os : List Rat), ts.Pairwise (· ≤ ·) → os.Pairwise (· ≤ ·) → (mergeQ ts os).Pairwise (· ≤ ·)
  | [], os, _, h => h
  | t :: ts, os, ht, ho => by
    show (os.takeWhile (fun o => decide (o < t)) ++ t :: mergeQ ts (os.dropWhile fun o => decide (o < t))).Pairwise (· ≤ ·)
    obtain ⟨h1, h2⟩ := List.pairwise_cons.mp ht
    have hd := ho.sublist (List.dropWhile_sublist (fun o => decide (o < t)))
    have hr : ∀ u ∈ mergeQ ts (os.dropWhile fun o => decide (o < t)), t ≤ u := fun u hu => by
      rcases merge_mem _ _ u hu with w | w
      · exact h1 u w
      · exact drop_ge ho u w
    refine List.pairwise_append.mpr ⟨ho.sublist (List.takeWhile_sublist _), List.pairwise_cons.mpr ⟨hr, merge_asc ts _ h2 hd⟩, fun a h b hb => ?_⟩
    have la := Std.le_of_lt (take_lt a h)
    rcases List.mem_cons.mp hb with rfl | hb
    · exact la
    · exact Rat.le_trans la (hr b hb)
theorem merge_has : ∀ (ts os : List Rat), ∀ u, u ∈ ts ∨ u ∈ os → u ∈ mergeQ ts os
  | [], os, u, h => h.resolve_left (by simp)
  | t :: ts, os, u, h => by
    show u ∈ os.takeWhile (fun o => decide (o < t)) ++ t :: mergeQ ts (os.dropWhile fun o => decide (o < t))
    rw [List.mem_append, List.mem_cons]
    rcases h with h | h
    · rcases List.mem_cons.mp h with rfl | h
      · exact .inr (.inl rfl)
      · exact .inr (.inr (merge_has ts _ u (.inl h)))
    · rw [← List.takeWhile_append_dropWhile (p := fun o => decide (o < t)) (l := os), List.mem_append] at h
      rcases h with h | h
      · exact .inl h
      · exact .inr (.inr (merge_has ts _ u (.inr h)))
theorem rising_self : ∀ (ts : List Rat) (s : Rat), s ∈ risingQ s ts
  | [], s => List.mem_cons_self ..
  | t :: ts, s => by
    unfold risingQ
    split
    · exact List.mem_cons_self ..
    · exact rising_self ts s
theorem rising_has : ∀ (ts : List Rat) (s : Rat), ts.Pairwise (· ≤ ·) → ∀ u ∈ ts, s < u → u ∈ risingQ s ts
  | [], s, _, u, h, _ => by simp at h
  | t :: ts, s, hs, u, h, l => by
    obtain ⟨h1, h2⟩ := List.pairwise_cons.mp hs
    unfold risingQ
    split
    · refine List.mem_cons_of_mem _ ?_
      rcases List.mem_cons.mp h with rfl | h
      · exact rising_self ts _
      · rcases Std.le_iff_lt_or_eq.mp (h1 u h) with z | z
        · exact rising_has ts t h2 u h z
        · rw [← z]; exact rising_self ts _
    · rename_i z
      rcases List.mem_cons.mp h with rfl | h
      · exact absurd l z
      · exact rising_has ts s h2 u h l
theorem asc_le {ks : List Kn} (h : Asc ks) : (ks.map (·.1)).Pairwise (· ≤ ·) := by
  rw [List.pairwise_map]
  exact List.Pairwise.imp (fun l => Std.le_of_lt l) h
theorem gt_mem {ks ls : List Kn} (ha : Asc ks) (hb : Asc ls) (u : Rat) : u ∈ gapTimes ks ls ↔ u = laterQ (tAt ks 0) (tAt ls 0) ∨ (laterQ (tAt ks 0) (tAt ls 0) < u ∧ (u ∈ ks.map (·.1) ∨ u ∈ ls.map (·.1))) := by
  have hm := merge_asc _ _ (asc_le ha) (asc_le hb)
  unfold gapTimes
  constructor
  · intro h
    by_cases z : u = laterQ (tAt ks 0) (tAt ls 0)
    · exact .inl z
    · refine .inr ⟨?_, ?_⟩
      · rcases Std.le_iff_lt_or_eq.mp (rising_ge _ _ u h) with w | w
        · exact w
        · exact absurd w.symm z
      · exact merge_mem _ _ u ((rising_mem _ _ u h).resolve_left z)
  · rintro (rfl | ⟨l, h⟩)
    · exact rising_self _ _
    · exact rising_has _ _ hm u (merge_has _ _ u h) l
theorem asc_ext : ∀ (a b : List Rat), a.Pairwise (· < ·) → b.Pairwise (· < ·) → (∀ u, u ∈ a ↔ u ∈ b) → a = b
  | [], [], _, _, _ => rfl
  | [], y :: b, _, _, h => by have := (h y).mpr (List.mem_cons_self ..); simp at this
  | x :: a, [], _, _, h => by have := (h x).mp (List.mem_cons_self ..); simp at this
  | x :: a, y :: b, ha, hb, h => by
    obtain ⟨a1, a2⟩ := List.pairwise_cons.mp ha
    obtain ⟨b1, b2⟩ := List.pairwise_cons.mp hb
    have e : x = y := by
      rcases List.mem_cons.mp ((h x).mp (List.mem_cons_self ..)) with w | w
      · exact w
      · rcases List.mem_cons.mp ((h y).mpr (List.mem_cons_self ..)) with v | v
        · exact v.symm
        · exact absurd (Std.lt_trans (b1 x w) (a1 y v)) Rat.lt_irrefl
    subst e
    rw [asc_ext a b a2 b2 fun u => ?_]
    constructor
    · intro w
      rcases List.mem_cons.mp ((h u).mp (List.mem_cons_of_mem _ w)) with v | v
      · exact absurd (v ▸ a1 u w) Rat.lt_irrefl
      · exact v
    · intro w
      rcases List.mem_cons.mp ((h u).mpr (List.mem_cons_of_mem _ w)) with v | v
      · exact absurd (v ▸ b1 u w) Rat.lt_irrefl
      · exact v
theorem later_comm (a b : Rat) : laterQ a b = laterQ b a := by
  unfold laterQ
  split <;> split <;> grind
theorem gapTimes_comm {ks ls : List Kn} (ha : Asc ks) (hb : Asc ls) : gapTimes ls ks = gapTimes ks ls := by
  refine asc_ext _ _ (rising_asc _ _) (rising_asc _ _) fun u => ?_
  rw [gt_mem ha hb, gt_mem hb ha, later_comm]
  constructor
  · rintro (z | ⟨a, b | b⟩)
    · exact .inl z
    · exact .inr ⟨a, .inr b⟩
    · exact .inr ⟨a, .inl b⟩
  · rintro (z | ⟨a, b | b⟩)
    · exact .inl z
    · exact .inr ⟨a, .inr b⟩
    · exact .inr ⟨a, .inl b⟩
theorem last_le {f : Nat → Rat} {t : Rat} (h : f 0 ≤ t) : ∀ n, 0 < n → ∃ k, k < n ∧ f k ≤ t ∧ ∀ i, k < i → i < n → t < f i
  | 0, l => absurd l (Nat.lt_irrefl _)
  | n + 1, _ => by
    by_cases z : f n ≤ t
    · exact ⟨n, by omega, z, fun i a b => by omega⟩
    · by_cases z0 : n = 0
      · subst z0; exact absurd h z
      · obtain ⟨k, a, b, c⟩ := last_le h n (by omega)
        refine ⟨k, by omega, b, fun i i1 i2 => ?_⟩
        rcases Nat.lt_or_ge i n with w | w
        · exact c i i1 w
        · rw [show i = n by omega]; exact Rat.not_le.mp z
theorem pace_at {ks : List Kn} {k : Nat} (h : k + 1 < ks.length) : paceB ks k = (xAt ks (k + 1) - xAt ks k) / (tAt ks (k + 1) - tAt ks k) := by
  unfold paceB
  rw [get_at (show k < ks.length by omega), get_at h]
theorem gap_tat {ks ls : List Kn} {k : Nat} (h : k < (gapTimes ks ls).length) : tAt (gapK ks ls) k = (gapTimes ks ls)[k] ∧ xAt (gapK ks ls) k = posAt ks (gapTimes ks ls)[k] - posAt ls (gapTimes ks ls)[k] := by
  have e : (gapK ks ls)[k]? = some ((gapTimes ks ls)[k], posAt ks (gapTimes ks ls)[k] - posAt ls (gapTimes ks ls)[k]) := by
    unfold gapK
    rw [List.getElem?_map, List.getElem?_eq_getElem h]
    rfl
  have e2 := get_at (ks := gapK ks ls) (k := k) (by rw [gap_len]; exact h)
  rw [e] at e2
  have e3 := Option.some.inj e2
  exact ⟨(congrArg Prod.fst e3).symm, (congrArg Prod.snd e3).symm⟩
theorem cnt_all {ks : List Kn} {t : Rat} (h : ∀ c ∈ ks, c.1 ≤ t) (ha : Asc ks) : cntLe ks t = ks.length := by
  have := cntLe_le ks t
  rcases Nat.lt_or_ge (cntLe ks t) ks.length with z | z
  · have e := get_at z
    have := (cnt_get ha e).mp (h _ (List.mem_of_getElem? e))
    omega
  · omega
/-- a load's part of a gap's piece is straight; behind the last of the gap's times it rests -/
theorem part_lin {ks T : List Kn} (ha : Asc ks) (hT : Asc T) (l0 : 0 < ks.length) {k : Nat} (hk : k < T.length) (lk : tAt ks 0 ≤ tAt T k) (hin : ∀ c ∈ ks, tAt T k < c.1 → ∃ i, k < i ∧ i < T.length ∧ tAt T i = c.1) : ∃ p : Rat, (∀ v, tAt T k ≤ v → (k + 1 < T.length → v ≤ tAt T (k + 1)) → posAt ks v = posAt ks (tAt T k) + p * (v - tAt T k)) ∧ (k + 1 = T.length → p = 0) := by
  refine ⟨paceB ks (cntLe ks (tAt T k) - 1), fun v l u => ?_, fun e => ?_⟩
  · refine pos_lin ha (get_at l0) lk l ?_
    rintro c hc ⟨c1, c2⟩
    obtain ⟨i, i1, i2, e⟩ := hin c hc c1
    rw [← e] at c2
    have h1 := u (by omega)
    have : tAt T (k + 1) ≤ tAt T i := by
      rcases Nat.lt_or_ge (k + 1) i with w | w
      · exact Std.le_of_lt (t_lt hT w i2)
      · rw [show i = k + 1 by omega]; exact Rat.le_refl
    exact absurd (Std.lt_of_lt_of_le c2 (Rat.le_trans h1 this)) Rat.lt_irrefl
  · have : cntLe ks (tAt T k) = ks.length := cnt_all (fun c hc => by
      by_cases w : c.1 ≤ tAt T k
      · exact w
      · obtain ⟨i, i1, i2, _⟩ := hin c hc (Rat.not_le.mp w)
        omega) ha
    rw [this]
    exact pace_last (by omega)
theorem gap_pos {ks ls : List Kn} (ha : Asc ks) (hb : Asc ls) (l1 : 0 < ks.length) (l2 : 0 < ls.length) {t : Rat} (t1 : tAt ks 0 ≤ t) (t2 : tAt ls 0 ≤ t) : posAt (gapK ks ls) t = posAt ks t - posAt ls t := by
  have gp : 0 < (gapTimes ks ls).length := rising_pos _ _
  have gl := gap_len ks ls
  have ga := gap_asc (ks := ks) (ls := ls)
  have ls0 : ∀ k, k < (gapK ks ls).length → laterQ (tAt ks 0) (tAt ls 0) ≤ tAt (gapK ks ls) k := fun k h => by
    rw [(gap_tat (by omega)).1]
    exact rising_ge _ _ _ (List.getElem_mem _)
  have h0 : tAt (gapK ks ls) 0 = laterQ (tAt ks 0) (tAt ls 0) := by
    rcases (gt_mem ha hb _).mpr (.inl rfl) |> List.mem_iff_getElem.mp with ⟨i, hi, e⟩
    have a1 := ls0 0 (by omega)
    rw [← (gap_tat hi).1] at e
    rcases Nat.eq_zero_or_pos i with rfl | w
    · exact e
    · have := t_lt ga w (show i < (gapK ks ls).length by omega)
      rw [e] at this
      exact absurd (Std.lt_of_lt_of_le this a1) Rat.lt_irrefl
  have ht0 : tAt (gapK ks ls) 0 ≤ t := by
    rw [h0]; unfold laterQ; split <;> assumption
  obtain ⟨k, hk, lk, hl⟩ := last_le (f := tAt (gapK ks ls)) ht0 (gapK ks ls).length (by omega)
  have hin : ∀ u : Rat, (u ∈ ks.map (·.1) ∨ u ∈ ls.map (·.1)) → tAt (gapK ks ls) k < u → ∃ i, k < i ∧ i < (gapK ks ls).length ∧ tAt (gapK ks ls) i = u := fun u hu w => by
    have hm := (gt_mem ha hb u).mpr (.inr ⟨Std.lt_of_le_of_lt (ls0 k hk) w, hu⟩)
    obtain ⟨i, hi, e⟩ := List.mem_iff_getElem.mp hm
    rw [← (gap_tat hi).1] at e
    refine ⟨i, ?_, by omega, e⟩
    rcases Nat.lt_or_ge k i with z | z
    · exact z
    · rw [← e] at w
      rcases Nat.lt_or_ge i k with y | y
      · exact absurd (Std.lt_trans w (t_lt ga y hk)) Rat.lt_irrefl
      · rw [show i = k by omega] at w; exact absurd w Rat.lt_irrefl
  have hs := ls0 k hk
  obtain ⟨p, p1, p2⟩ := part_lin ha ga l1 hk (Rat.le_trans (later_l _ _) hs) (fun c hc w => hin c.1 (.inl (List.mem_map.mpr ⟨c, hc, rfl⟩)) w)
  obtain ⟨r, r1, r2⟩ := part_lin hb ga l2 hk (Rat.le_trans (later_r _ _) hs) (fun c hc w => hin c.1 (.inr (List.mem_map.mpr ⟨c, hc, rfl⟩)) w)
  have u : k + 1 < (gapK ks ls).length → t ≤ tAt (gapK ks ls) (k + 1) := fun w => Std.le_of_lt (hl _ (by omega) w)
  have ek := (gap_tat (ks := ks) (ls := ls) (k := k) (by omega))
  rw [← ek.1] at ek
  rw [pos_piece ga hk lk u, p1 t lk u, r1 t lk u, ek.2]
  by_cases z : k + 1 < (gapK ks ls).length
  · have lt := t_lt ga (Nat.lt_succ_self k) z
    have ek1 := (gap_tat (ks := ks) (ls := ls) (k := k + 1) (by omega))
    rw [← ek1.1] at ek1
    have q1 := p1 _ (Std.le_of_lt lt) (fun _ => Rat.le_refl)
    have q2 := r1 _ (Std.le_of_lt lt) (fun _ => Rat.le_refl)
    have e : paceB (gapK ks ls) k = p - r := by
      rw [pace_at z, ek.2, ek1.2, q1, q2]
      have : (posAt ks (tAt (gapK ks ls) k) + p * (tAt (gapK ks ls) (k + 1) - tAt (gapK ks ls) k) - (posAt ls (tAt (gapK ks ls) k) + r * (tAt (gapK ks ls) (k + 1) - tAt (gapK ks ls) k)) - (posAt ks (tAt (gapK ks ls) k) - posAt ls (tAt (gapK ks ls) k))) = (p - r) * (tAt (gapK ks ls) (k + 1) - tAt (gapK ks ls) k) := by grind
      rw [this]
      exact Rat.mul_div_cancel (by grind)
    rw [e]
    grind
  · rw [pace_last (show k + 1 = (gapK ks ls).length by omega), p2 (by omega), r2 (by omega)]
    grind

/-! ## the two exchanged; crossings grow in number -/
def ngK (ks : List Kn) : List Kn := ks.map fun p => (p.1, -p.2)
theorem ng_len (ks : List Kn) : (ngK ks).length = ks.length := List.length_map ..
theorem ng_getD (ks : List Kn) (i : Nat) : (ngK ks).getD i (0, 0) = ((ks.getD i (0, 0)).1, -(ks.getD i (0, 0)).2) := by
  unfold ngK
  rw [List.getD_eq_getElem?_getD, List.getD_eq_getElem?_getD, List.getElem?_map]
  cases ks[i]? with
  | none => rfl
  | some a => rfl
theorem ng_x (ks : List Kn) (i : Nat) : xAt (ngK ks) i = -xAt ks i := by unfold xAt; rw [ng_getD]
theorem ng_t (ks : List Kn) (i : Nat) : tAt (ngK ks) i = tAt ks i := by unfold tAt; rw [ng_getD]
theorem ng_pace (ks : List Kn) (i : Nat) : paceB (ngK ks) i = -paceB ks i := by
  unfold paceB ngK
  rw [List.getElem?_map, List.getElem?_map]
  cases ks[i]? with
  | none => rfl
  | some a =>
    cases ks[i + 1]? with
    | none => rfl
    | some b =>
      show (-b.2 - -a.2) / (b.1 - a.1) = -((b.2 - a.2) / (b.1 - a.1))
      rw [Rat.div_def, Rat.div_def, ← Rat.neg_mul]
      congr 1
      grind
theorem ng_pos (ks : List Kn) (t : Rat) : posAt (ngK ks) t = -posAt ks t := by
  have := pos_scale (f := fun p => (p.1, -p.2)) (ks := ks) (s := -1) (fun _ => rfl) (fun k => by show -k.2 = k.2 * -1; grind) t
  unfold ngK
  rw [this]
  grind
theorem gap_ng {ks ls : List Kn} (ha : Asc ks) (hb : Asc ls) : gapK ls ks = ngK (gapK ks ls) := by
  unfold gapK ngK
  rw [gapTimes_comm ha hb, List.map_map]
  refine List.map_congr_left fun t _ => ?_
  show (t, _) = (t, _)
  congr 1
  grind
theorem plain_ng (ks : List Kn) : plainK (ngK ks) = ngK (plainK ks) := by
  unfold plainK
  have e : ∀ A B : List Kn, ngK (A ++ B) = ngK A ++ ngK B := fun A B => by unfold ngK; exact List.map_append
  rw [e]
  congr 1
  · unfold ngK; exact List.map_take.symm
  · rw [ng_len]
    unfold ngK
    rw [List.map_map]
    have : (fun i => !decide (paceB (ngK ks) i = paceB (ngK ks) (i + 1))) = fun i => !decide (paceB ks i = paceB ks (i + 1)) := by
      funext i
      rw [ng_pace, ng_pace]
      congr 1
      exact decide_eq_decide.mpr ⟨fun h => by grind, fun h => by grind⟩
    unfold ngK at this
    rw [this]
    refine List.map_congr_left fun i _ => ?_
    exact ng_getD ks (i + 1)
theorem sgn_neg (x : Rat) : sgnQ (-x) = -sgnQ x := by
  rcases Std.lt_trichotomy x 0 with z | z | z
  · rw [sgn_lt z, sgn_gt (show 0 < -x by grind)]; rfl
  · subst z; decide +kernel
  · rw [sgn_gt z, sgn_lt (show -x < 0 by grind)]
theorem cross_ng (b : Rat) (e : Option Rat) (p q : Int) : crossQ ⟨b, e, -p, -q⟩ = crossQ ⟨b, e, p, q⟩ := by
  unfold crossQ
  simp only
  rw [show decide (-p = 0) = decide (p = 0) from decide_eq_decide.mpr (by omega), show decide (-q = 0) = decide (q = 0) from decide_eq_decide.mpr (by omega), show decide (-p = -q) = decide (p = q) from decide_eq_decide.mpr (by omega)]
theorem ng_before (ks : List Kn) (k : Nat) : (if k = 0 then (0 : Int) else -sgnQ (paceB (ngK ks) (k - 1))) = -(if k = 0 then (0 : Int) else -sgnQ (paceB ks (k - 1))) := by
  rw [ng_pace, sgn_neg]
  split <;> omega
theorem gA_ng {ks : List Kn} {L : Option Int} {t : Rat} (hL : LOk L) (k : Nat) : growthAtQ (ngK ks) k L t = -growthAtQ ks k L t := by
  have eh : ((0 < k ∧ (if k = 0 then (0 : Int) else -sgnQ (paceB (ngK ks) (k - 1))) = 0) ∨ togQ L (xAt (ngK ks) k) = false) ↔ ((0 < k ∧ (if k = 0 then (0 : Int) else -sgnQ (paceB ks (k - 1))) = 0) ∨ togQ L (xAt ks k) = false) := by
    rw [ng_before, ng_x, tog_neg hL]
    constructor
    · rintro (⟨a, b⟩ | b)
      · exact .inl ⟨a, by omega⟩
      · exact .inr b
    · rintro (⟨a, b⟩ | b)
      · exact .inl ⟨a, by omega⟩
      · exact .inr b
  have ez : sgnQ (paceB (ngK ks) k) ≠ 0 ↔ sgnQ (paceB ks k) ≠ 0 := by rw [ng_pace, sgn_neg]; omega
  have elast : (if sgnQ (paceB (ngK ks) k) ≠ 0 then k else k + 1) = (if sgnQ (paceB ks k) ≠ 0 then k else k + 1) := by
    by_cases z : sgnQ (paceB ks k) ≠ 0
    · rw [if_pos z, if_pos (ez.mpr z)]
    · rw [if_neg z, if_neg (fun w => z (ez.mp w))]
  by_cases hno : ((0 < k ∧ (if k = 0 then (0 : Int) else -sgnQ (paceB ks (k - 1))) = 0) ∨ togQ L (xAt ks k) = false)
  · rw [growthAt0 (contactQ_no hno), growthAt0 (contactQ_no (eh.mpr hno))]; rfl
  · by_cases hl : (if sgnQ (paceB ks k) ≠ 0 then k else k + 1) = ks.length
    · rw [growthAt1 (contactQ_open hno hl), growthAt1 (contactQ_open (fun w => hno (eh.mp w)) (by rw [elast, ng_len]; exact hl))]
      show (if (_ && false) = true then _ else _) = -(if (_ && false) = true then _ else _)
      rw [Bool.and_false, Bool.and_false, if_neg Bool.false_ne_true]
      rfl
    · rw [growthAt1 (contactQ_shut hno hl), growthAt1 (contactQ_shut (fun w => hno (eh.mp w)) (by rw [elast, ng_len]; exact hl))]
      rw [elast, ng_before, ng_t, ng_t, ng_pace ks (if sgnQ (paceB ks k) ≠ 0 then k else k + 1), sgn_neg, cross_ng]
      have key : ∀ (c : Bool) (q : Int), (if c = true then -q else 0) = -(if c = true then q else 0) := fun c q => by cases c <;> simp
      exact key _ _
theorem turn_ng (x : Rat) (s : Int) : turnQ (-x) (-s) = turnQ x s := by
  unfold turnQ
  rw [Rat.intCast_neg]
  grind
theorem gB_ng {ks : List Kn} {L : Option Int} {t : Rat} (k : Nat) : growthBtQ (ngK ks) k L t = -growthBtQ ks k L t := by
  unfold growthBtQ
  simp only
  rw [ng_pace, sgn_neg, ng_t, ng_t, ng_x, ng_x, ng_pos]
  by_cases z : sgnQ (paceB ks k) = 0 ∨ t ≤ tAt ks k
  · rw [if_pos z, if_pos (by rcases z with z | z; exact .inl (by omega); exact .inr z)]; rfl
  · rw [if_neg z, if_neg (by rintro (w | w); exact z (.inl (by omega)); exact z (.inr w))]
    by_cases u : t < tAt ks (k + 1)
    · rw [if_pos u, if_pos u, turn_ng, turn_ng, Int.neg_mul]
    · rw [if_neg u, if_neg u, turn_ng, turn_ng, Int.neg_mul]
theorem growths_ng {ks : List Kn} {L : Option Int} {t : Rat} (hL : LOk L) : growthsQ (ngK ks) L t = (growthsQ ks L t).map (- ·) := by
  unfold growthsQ
  rw [ng_len, List.map_append, List.map_map, List.map_map]
  congr 1
  · exact List.map_congr_left fun k _ => gA_ng hL k
  · exact List.map_congr_left fun k _ => gB_ng k
theorem fwd_neg : ∀ gs : List Int, forwardQ (gs.map (- ·)) = backwardQ gs
  | [] => by decide
  | g :: gs => by
    have ih := fwd_neg gs
    unfold forwardQ backwardQ at *
    rw [List.map_cons, List.filter_cons, List.filter_cons]
    by_cases z : g < 0
    · rw [decide_eq_true (show 0 < -g by omega), decide_eq_true z]
      simp only [if_true, List.sum_cons]
      omega
    · rw [decide_eq_false (show ¬ 0 < -g by omega), decide_eq_false z]
      simp only [Bool.false_eq_true, if_false]
      omega
theorem bwd_neg (gs : List Int) : backwardQ (gs.map (- ·)) = forwardQ gs := by
  rw [← fwd_neg, List.map_map]
  have : ((fun x : Int => -x) ∘ fun x => -x) = id := by funext x; simp
  rw [this, List.map_id]
/-! ### laps rise with the gap -/
theorem laps_le {l : Int} (h : 1 ≤ l) (x : Rat) (m : Int) : m ≤ lapsQ (some l) x ↔ ((m * l : Int) : Rat) ≤ x := by
  have hp : 0 < (x.den : Int) * l := Int.mul_pos (q_den_pos x) (by omega)
  have e2 : lapsQ (some l) x = x.num / ((x.den : Int) * l) := by
    unfold lapsQ
    exact Int.fdiv_eq_ediv_of_nonneg _ (by omega)
  rw [e2, Int.le_ediv_iff_mul_le hp, Rat.le_iff]
  rw [Rat.num_intCast, Rat.den_intCast]
  rw [show m * l * (x.den : Int) = m * ((x.den : Int) * l) by rw [Int.mul_assoc, Int.mul_comm l]]
  rw [show x.num * ((1 : Nat) : Int) = x.num by omega]
theorem laps_mono {L : Option Int} (h : LOk L) {x y : Rat} (l : x ≤ y) : lapsQ L x ≤ lapsQ L y := by
  cases L with
  | none =>
    unfold lapsQ sgnQ
    simp only
    by_cases a : x < 0
    · rw [if_pos a]
      split <;> split <;> omega
    · have b : ¬ y < 0 := fun w => a (Std.lt_of_le_of_lt l w)
      rw [if_neg a, if_neg b]
      split <;> split <;> omega
  | some k =>
    have k1 := h k rfl
    exact (laps_le k1 y _).mpr (Rat.le_trans ((laps_le k1 x _).mp (Int.le_refl _)) l)
theorem below_laps {L : Option Int} (h : LOk L) (x : Rat) : belowQ L x = -1 - lapsQ L (-x) := by have := laps_neg h x; omega
theorem below_mono {L : Option Int} (h : LOk L) {x y : Rat} (l : x ≤ y) : belowQ L x ≤ belowQ L y := by
  rw [below_laps h, below_laps h]
  have := laps_mono h (show -y ≤ -x by grind)
  omega
theorem laps_below_lt {L : Option Int} (h : LOk L) {x y : Rat} (l : x < y) : lapsQ L x ≤ belowQ L y := by
  rw [below_laps h]
  cases L with
  | none =>
    unfold lapsQ
    simp only
    have hs := sgn_cases (-y)
    have hx := sgn_cases x
    by_cases a : x < 0
    · rw [sgn_lt a]
      split <;> split <;> omega
    · rw [sgn_lt (show -y < 0 by grind)]
      split <;> split <;> omega
  | some k =>
    have k1 := h k rfl
    have h1 := (laps_le k1 x _).mp (Int.le_refl _)
    have h2 : ¬ (-lapsQ (some k) x ≤ lapsQ (some k) (-y)) := fun w => by
      have := (laps_le k1 (-y) _).mp w
      rw [Int.neg_mul, Rat.intCast_neg] at this
      have : y ≤ ((lapsQ (some k) x * k : Int) : Rat) := by grind
      exact absurd (Std.lt_of_lt_of_le l (Rat.le_trans this h1)) Rat.lt_irrefl
    omega
/-- farther from 0 on the same side -/
def Far (a b : Int) : Prop := (0 ≤ a ∧ a ≤ b) ∨ (a ≤ 0 ∧ b ≤ a)
theorem far_zero (b : Int) : Far 0 b := by unfold Far; omega
theorem gA_far {ks : List Kn} {L : Option Int} {t v : Rat} (l : t ≤ v) (k : Nat) : Far (growthAtQ ks k L t) (growthAtQ ks k L v) := by
  cases hc : contactQ ks k L with
  | none => rw [growthAt0 hc]; exact far_zero _
  | some c =>
    rw [growthAt1 hc, growthAt1 hc]
    by_cases z : (crossQ c && endsQ c t) = true
    · have : (crossQ c && endsQ c v) = true := by
        rw [Bool.and_eq_true] at z ⊢
        refine ⟨z.1, ?_⟩
        have z2 := z.2
        unfold endsQ at z2 ⊢
        cases he : c.e with
        | none => rw [he] at z2; cases z2
        | some e =>
          rw [he] at z2
          simp only [decide_eq_true_eq] at z2 ⊢
          exact Std.lt_of_lt_of_le z2 l
      rw [if_pos z, if_pos this]
      unfold Far
      omega
    · rw [if_neg z]
      exact far_zero _
theorem turn_lt {s : Int} {x p d : Rat} (e : s = sgnQ p) (hp : s ≠ 0) : ∀ d e : Rat, d ≤ e → turnQ (x + p * d) s ≤ turnQ (x + p * e) s := by
  intro d e' l
  have h := (sgn_cases p).resolve_left (by omega)
  subst e
  rcases h with z | z
  · rw [z, turn_one, turn_one]
    have : 0 < p := by
      rcases Std.lt_trichotomy p 0 with w | w | w
      · rw [sgn_lt w] at z; omega
      · rw [w] at z; exact absurd z (by decide +kernel)
      · exact w
    have := Rat.mul_le_mul_of_nonneg_left l (Std.le_of_lt this)
    grind
  · rw [z, turn_neg, turn_neg]
    have : p < 0 := by
      rcases Std.lt_trichotomy p 0 with w | w | w
      · exact w
      · rw [w] at z; exact absurd z (by decide +kernel)
      · rw [sgn_gt w] at z; omega
    have := Rat.mul_le_mul_of_nonneg_left l (show 0 ≤ -p by grind)
    grind
theorem turn_lt' {s : Int} {x p : Rat} (e : s = sgnQ p) (hp : s ≠ 0) {d : Rat} (l : 0 < d) : turnQ x s < turnQ (x + p * d) s := by
  have h := (sgn_cases p).resolve_left (by omega)
  subst e
  rcases h with z | z
  · rw [z, turn_one, turn_one]
    have : 0 < p := by
      rcases Std.lt_trichotomy p 0 with w | w | w
      · rw [sgn_lt w] at z; omega
      · rw [w] at z; exact absurd z (by decide +kernel)
      · exact w
    have := Rat.mul_pos this l
    grind
  · rw [z, turn_neg, turn_neg]
    have : p < 0 := by
      rcases Std.lt_trichotomy p 0 with w | w | w
      · exact w
      · rw [w] at z; exact absurd z (by decide +kernel)
      · rw [sgn_gt w] at z; omega
    have := Rat.mul_pos (show 0 < -p by grind) l
    grind
theorem gB_far {ks : List Kn} {L : Option Int} {t v : Rat} (hL : LOk L) (ha : Asc ks) (l : t ≤ v) {k : Nat} (hk : k < ks.length) : Far (growthBtQ ks k L t) (growthBtQ ks k L v) := by
  by_cases z : sgnQ (paceB ks k) = 0
  · rw [gB_flat z]; exact far_zero _
  by_cases z1 : t ≤ tAt ks k
  · rw [gB_late z1]; exact far_zero _
  have z1 := Rat.not_le.mp z1
  have hk1 : k + 1 < ks.length := by
    rcases Nat.lt_or_ge (k + 1) ks.length with w | w
    · exact w
    · exact absurd (sgn_zero.mpr (pace_last (show k + 1 = ks.length by omega))) z
  have lk := t_lt ha (Nat.lt_succ_self k) hk1
  -- the end of what is passed, as far as w
  have hi : ∀ w, tAt ks k < w → ∃ d : Rat, 0 < d ∧ (d = w - tAt ks k ∧ w < tAt ks (k + 1) ∨ d = tAt ks (k + 1) - tAt ks k ∧ tAt ks (k + 1) ≤ w) ∧ growthBtQ ks k L w = sgnQ (paceB ks k) * (belowQ L (turnQ (xAt ks k + paceB ks k * d) (sgnQ (paceB ks k))) - lapsQ L (turnQ (xAt ks k) (sgnQ (paceB ks k)))) := by
    intro w lw
    unfold growthBtQ
    simp only
    rw [if_neg (by rintro (y | y); exact z y; exact absurd (Std.lt_of_lt_of_le lw y) Rat.lt_irrefl)]
    by_cases u : w < tAt ks (k + 1)
    · refine ⟨w - tAt ks k, by grind, .inl ⟨rfl, u⟩, ?_⟩
      rw [if_pos u, pos_piece ha hk (Std.le_of_lt lw) (fun _ => Std.le_of_lt u)]
    · refine ⟨tAt ks (k + 1) - tAt ks k, by grind, .inr ⟨rfl, Rat.not_lt.mp u⟩, ?_⟩
      rw [if_neg u]
      have e := pos_piece ha hk (Std.le_of_lt lk) (fun _ => Rat.le_refl)
      rw [← e, pos_knot ha (List.mem_of_getElem? (get_at hk1))]
  obtain ⟨d, d0, d1, e1⟩ := hi t z1
  obtain ⟨d', d0', d1', e2⟩ := hi v (Std.lt_of_lt_of_le z1 l)
  have ld : d ≤ d' := by
    rcases d1 with ⟨a, b⟩ | ⟨a, b⟩ <;> rcases d1' with ⟨a', b'⟩ | ⟨a', b'⟩ <;> grind
  have n1 := laps_below_lt hL (turn_lt' (x := xAt ks k) (p := paceB ks k) rfl z d0)
  have n2 := below_mono hL (turn_lt (x := xAt ks k) (p := paceB ks k) (d := d) rfl z d d' ld)
  rw [e1, e2]
  rcases (sgn_cases (paceB ks k)).resolve_left z with y | y
  · rw [y] at n1 n2 ⊢
    unfold Far
    omega
  · rw [y] at n1 n2 ⊢
    unfold Far
    omega
theorem fb_far {f g : Nat → Int} : ∀ is : List Nat, (∀ i ∈ is, Far (f i) (g i)) → forwardQ (is.map f) ≤ forwardQ (is.map g) ∧ backwardQ (is.map f) ≤ backwardQ (is.map g)
  | [], _ => ⟨Int.le_refl _, Int.le_refl _⟩
  | i :: is, h => by
    have ih := fb_far (f := f) (g := g) is fun j hj => h j (List.mem_cons_of_mem _ hj)
    have hi := h i (List.mem_cons_self ..)
    have key : ∀ (x : Int) (xs : List Int), forwardQ (x :: xs) = (if 0 < x then x else 0) + forwardQ xs ∧ backwardQ (x :: xs) = (if x < 0 then -x else 0) + backwardQ xs := by
      intro x xs
      unfold forwardQ backwardQ
      rw [List.filter_cons, List.filter_cons]
      constructor
      · by_cases y : 0 < x
        · rw [decide_eq_true y, if_pos rfl, if_pos y, List.sum_cons]
        · rw [decide_eq_false y, if_neg Bool.false_ne_true, if_neg y]; omega
      · by_cases y : x < 0
        · rw [decide_eq_true y, if_pos rfl, if_pos y, List.sum_cons]; omega
        · rw [decide_eq_false y, if_neg Bool.false_ne_true, if_neg y]; omega
    rw [List.map_cons, List.map_cons, (key _ _).1, (key _ _).1, (key _ _).2, (key _ _).2]
    unfold Far at hi
    constructor
    · split <;> split <;> omega
    · split <;> split <;> omega
theorem fb_app (a b : List Int) : forwardQ (a ++ b) = forwardQ a + forwardQ b ∧ backwardQ (a ++ b) = backwardQ a + backwardQ b := by
  unfold forwardQ backwardQ
  rw [List.filter_append, List.filter_append, List.sum_append, List.sum_append]
  omega
theorem counts_far {ks : List Kn} {L : Option Int} {t v : Rat} (hL : LOk L) (ha : Asc ks) (l : t ≤ v) : forwardQ (growthsQ ks L t) ≤ forwardQ (growthsQ ks L v) ∧ backwardQ (growthsQ ks L t) ≤ backwardQ (growthsQ ks L v) := by
  unfold growthsQ
  rw [(fb_app _ _).1, (fb_app _ _).1, (fb_app _ _).2, (fb_app _ _).2]
  have h1 := fb_far (f := fun k => growthAtQ ks k L t) (g := fun k => growthAtQ ks k L v) (List.range ks.length) (fun i _ => gA_far l i)
  have h2 := fb_far (f := fun k => growthBtQ ks k L t) (g := fun k => growthBtQ ks k L v) (List.range ks.length) (fun i hi => gB_far hL ha l (List.mem_range.mp hi))
  omega

/-! ## calls with keywords -/
structure CalKw (P : Program) (w : World) (K : Fg) (mg : Str → Option Value) (base : Heap) (CX : CXT) (k : Nat) (x : Str) (ps : List Str) (n : Nat) (ks : List Str) (sp : Sp) : Prop where
  ex : ∃ (f : Addr) (fd : FuncData) (g : List Value → List Value → List Value), FnOk P w K mg base CX k f fd ps sp ∧ mg x = some (.ref f) ∧ PySem.W.keepIn K (.ref f) = true ∧ KBn K fd ps n ks g (fun vs zs => vs ++ zs)
theorem pe_calKw {X : Cx} {CX : CXT} {k n : Nat} {x : Str} {ps ks : List Str} {sp : Sp} {E : XK} {p pos : Pos} {e : Expr} {es : List Expr} {kws : List Keyword} {t tk : TA} (G : CalKw X.prog X.w X.K X.mg X.base CX k x ps n ks sp) (hr : Room k X.A) (hg : Gl X x) (hx : Passes CX X E)
    (ha : PA X (e :: es) t) (hkw : PK X kws tk) (hall : (backToKw pos (keywordEach kws X.env)).all (·.1.isSome) = true := by rfl) (hks : (backToKw pos (keywordEach kws X.env)).filterMap (·.1) = ks := by rfl)
    (hdb : (x == ("__debug__" : Str)) = false := by decide) (he : starEach (e :: es) X.env = (false, eval e X.env) :: starEach es X.env := by rfl)
    (hpl : ((backTo pos (starEach (e :: es) X.env)).any (·.1) || (backToKw pos (keywordEach kws X.env)).any (·.1.isNone)) = false := by rfl) :
    PE X (.Call (.Name x p) (e :: es) kws pos) (tCallN n ks.length sp (fun vs zs => vs ++ zs) E t tk) := by
  obtain ⟨f, fd, g, F, hm, hk, hb⟩ := G.ex
  exact pe_callN F hr hg hm hk hb hx ha hkw hall hks hdb he hpl
theorem s_callKw {n m : Nat} {sp : Sp} {E : XK} {t tk : TA} {σ : L2.St} {H : Hp} {Q : VK} (h : t σ H fun vs H1 => tk σ H1 fun zs H2 => vs.length = n ∧ zs.length = m ∧ sp (vs ++ zs) H2 Q E) : tCallN n m sp (fun vs zs => vs ++ zs) E t tk σ H Q := h
theorem s_lens {α β : Type} {as : List α} {bs : List β} {p : Prop} (h : p) : as.length = as.length ∧ bs.length = bs.length ∧ p := ⟨rfl, rfl, h⟩
/-! ## a length: None, or a whole number -/
def rLg : Rp (Option Int) := fun _ _ _ v o => match o with | none => v = .non | some l => v = .int l
instance : Mono rLg := ⟨fun _ h => h⟩
/-- it is a length -/
def LgOk (L : Option Int) : Prop := match L with | none => True | some l => 1 ≤ l ∧ Bd 200 l
def rIsNn : R2 := fun x y H Q => y = .non ∧ Q (.bl (decide (x = .non))) H
def rNotNn : R2 := fun x y H Q => y = .non ∧ Q (.bl (!decide (x = .non))) H
theorem opIsN {X : Cx} : OpR X (compareOp .Is) rIsNn := op_isN
theorem opNotN {X : Cx} : OpR X (compareOp .IsNot) rNotNn := op_notN
section
variable {H : Hp} {Q : VK} {i : Int} {p : Addr}
theorem s_isN0 (h : Q (.bl true) H) : rIsNn .non .non H Q := ⟨rfl, by rw [decide_eq_true rfl]; exact h⟩
theorem s_isNi (h : Q (.bl false) H) : rIsNn (.int i) .non H Q := ⟨rfl, by rw [decide_eq_false (by intro z; cases z)]; exact h⟩
theorem s_isNr (h : Q (.bl false) H) : rIsNn (.ref p) .non H Q := ⟨rfl, by rw [decide_eq_false (by intro z; cases z)]; exact h⟩
theorem s_notN0 (h : Q (.bl false) H) : rNotNn .non .non H Q := ⟨rfl, by rw [decide_eq_true rfl]; exact h⟩
theorem s_notNi (h : Q (.bl true) H) : rNotNn (.int i) .non H Q := ⟨rfl, by rw [decide_eq_false (by intro z; cases z)]; exact h⟩
theorem s_notNr (h : Q (.bl true) H) : rNotNn (.ref p) .non H Q := ⟨rfl, by rw [decide_eq_false (by intro z; cases z)]; exact h⟩
end
theorem LgOk.pos {L : Option Int} (h : LgOk L) : ∀ l, L = some l → 1 ≤ l := fun l e => by subst e; exact h.1
theorem fr_ref {K : Fg} {M : Ms} {H : Hp} {v : V} {q : Rat} (h : rFr K M H v q) : ∃ p, v = .ref p := let ⟨p, e, _⟩ := h; ⟨p, e⟩
/-! ## while, without a word on its test -/
theorem while_N {c : TT} {tb : TS} {D : Ends} {σ : L2.St} {H : Hp} (Pv : L2.St → Hp → Prop) (μ : L2.St → Hp → Nat) (h0 : Pv σ H)
    (hs : ∀ σ H, Pv σ H → c σ H fun b H1 => if b = true then ∃ N : L2.St → Hp → Prop, (∀ σ' H', N σ' H' → ∃ m', m' < μ σ H ∧ m' = μ σ' H' ∧ Pv σ' H') ∧ tb { D with nx := N, ct := N, bk := D.nx } σ H1 else D.nx σ H1) : tWhile c tb D σ H :=
  ⟨fun m σ H => m = μ σ H ∧ Pv σ H, ⟨_, rfl, h0⟩, by
    rintro m σ H ⟨rfl, p⟩
    exact hs σ H p⟩
theorem whN {Pv : L2.St → Hp → Prop} {μ : L2.St → Hp → Nat} {n : Nat} {R : (L2.St → Hp → Prop) → Prop} (h : R fun σ' H' => Pv σ' H' ∧ μ σ' H' < n) : ∃ N : L2.St → Hp → Prop, (∀ σ' H', N σ' H' → ∃ m', m' < n ∧ m' = μ σ' H' ∧ Pv σ' H') ∧ R N := ⟨_, fun σ' H' ⟨p', l⟩ => ⟨_, l, rfl, p'⟩, h⟩
theorem Same.push {H0 H H' : Hp} {r : Addr} (s : Same H0 H) (n : H0 r = none) (k : ∀ b o, H b = some o → b ≠ r → H' b = some o) : Same H0 H' := fun b o e => k b o (s b o e) (ne_of_none e n)
/-! ## the least of two in a tuple; how a whole number is shown -/
def rMinT (K : Fg) : List V → Hp → VK → Prop := fun vs H Q => ∃ (a : Addr) (i j : Int), vs = [.ref a] ∧ SqT K H a [.int i, .int j] ∧ Q (.int (if j < i then j else i)) H
theorem callMinT {X : Cx} (hu : X.A.units + 64 < cLine) (hc : X.calm = true) : CallR X (.builtin "min") (rMinT X.K) := by
  intro pins s σ H vs us Q I r h
  obtain ⟨a, i, j, rfl, hs, q⟩ := h
  obtain ⟨its, rv, hl, _⟩ := I.tuple hs
  rw [Vals.ref1 r]
  obtain ⟨t, u, rfl⟩ := rv.int2
  refine PySem.W.min_tuple_data (x := .int i) (xs := [.int j]) (as := []) (I.ok.hd hc) hl (.cons (as := []) (bs := []) (.int i t) (.cons (as := []) (bs := []) (.int j u) .nil)) ⟨?_, ?_⟩ ?_ fun n v h' tk bs hv hr hk => ?_
  · intro x hx y hy
    simp only [List.mem_cons, List.not_mem_nil, or_false] at hx hy
    rcases hx with rfl | rfl <;> rcases hy with rfl | rfl <;> rfl
  · intro x hx
    simp only [List.mem_cons, List.not_mem_nil, or_false] at hx
    rcases hx with rfl | rfl <;> simp
  · show X.A.units + 1 + _ < _
    simp [PyData.depthAll, PyData.depth]
    omega
  · have e : PySem.W.minD (.int i) [.int j] = .int (min i j) := PySem.W.minD_ints i [j]
    rw [e] at hr
    have e2 : (if j < i then j else i) = min i j := by split <;> omega
    refine ⟨.int _, H, I.kept hk, ?_, q⟩
    rw [e2]
    cases hr
    exact ⟨_, rfl⟩
def rRepI : List V → Hp → VK → Prop := fun xs H Q => ∃ i : Int, xs = [.int i] ∧ i.natAbs.log2 < 1920 ∧ Q (.str (toString i)) H
theorem callRepI {X : Cx} : CallR X (.builtin "repr") rRepI := SkE.call_repr_int
theorem s_repI {i : Int} {H : Hp} {Q : VK} {k : Nat} (b : Bd k i) (hk : k < 1900) (q : Q (.str (toString i)) H) : rRepI [.int i] H Q := ⟨i, rfl, by
  rcases Nat.eq_zero_or_pos i.natAbs with z | z
  · rw [z]; decide
  · have := (Nat.log2_lt (by omega)).mpr (Nat.lt_of_lt_of_le b (Nat.pow_le_pow_right (by decide) (show k ≤ 1919 by omega)))
    omega, q⟩
theorem den_parts {n d : Int} (h : 0 < d) : (((n : Rat) / (d : Rat)).den : Int) ≤ d := by
  have L := low_terms (n := n) (show d ≠ 0 by omega) rfl
  obtain ⟨e1, e2⟩ := L.1 h
  rw [e2]
  exact Int.ediv_le_self _ (by omega)
/-! ## a, b = a list of two; a list times 0 or 1; a list that is to grow -/
theorem pgLstK {X : Cx} {pos : Pos} {es : List Expr} {k : Nat} {t : TGs} {n : Nat} (K : Fg) (hc : X.calm = true) (g : PGs X es t) (hn : (assignEach es X.env).length = n := by rfl) (hst : (assignEach es X.env).findIdx? (·.1) = none := by rfl) (h : X.K = K := by rfl) : PG X (.Tuple es k pos) (gLst K n t) := by subst h; exact pg_lst hc g hn hst
section
variable {α : Type} {A : Rp α} {K : Fg} {M : Ms} {H : Hp} {x y : V} {as bs : List α} {Q : VK}
theorem s_gL2 {a b : α} {t : TGs} {σ : L2.St} {R : L2.St → Hp → Prop} (h : rL A K M H x [a, b]) (q : ∀ y z, A K M H y a → A K M H z b → t [y, z] σ H R) : gLst K 2 t x σ H R := by
  obtain ⟨p, vs, rfl, l, r⟩ := h
  have e := Prd.len r
  match vs, e, r with
  | [u, v], _, .cons r1 (.cons r2 .nil) => exact ⟨p, _, rfl, l.sq, rfl, q u v r1 r2⟩
theorem s_rep01 [Mono A] {c : Bool} (h : rS A K M H x as) (w : Own M H) (hn : as.length < 90000) (k : ∀ v H', Same H H' → rS A K M H' v (if c = true then as else []) → Q v H') : rMulA x (.int (if c = true then 1 else 0)) H Q := by
  obtain ⟨p, vs, rfl, n, e, r⟩ := h
  have hl := Prd.len r
  refine .inr ⟨p, _, vs, rfl, rfl, e, by split <;> decide, by split <;> decide, ?_, fun q nq => ?_⟩
  · have : vs.length ≤ sizeLine := Nat.le_of_lt (small_line (by rw [hl]; omega))
    cases c
    · simp
    · simpa using this
  · have s : ∀ o, Same H (upd H q o) := fun o => Same.upd_new nq
    refine k _ _ (s _) ⟨q, _, rfl, w.fresh nq, upd_same, ?_⟩
    cases c
    · exact .nil
    · have : (List.replicate (1 : Int).toNat vs).flatten = vs := by simp [List.replicate]
      show Paired _ (List.replicate (1 : Int).toNat vs).flatten as
      rw [this]
      exact Prd.monoR (fun _ _ z => Rp.same (s _) z) r
theorem s_catG [Mono A] (ha : rS A K M H x as) (hb : rS A K M H y bs) (w : Own M H) (hn : as.length + bs.length < 100000) (h : ∀ r H', H r = none → ¬ M r → Same H H' → Own (mIn M r) H' → Bl A K M r H' (as ++ bs) → Q (.ref r) H') : rAddA K x y H Q := by
  obtain ⟨p, vs, rfl, n1, e1, p1⟩ := ha
  obtain ⟨q, ws, rfl, n2, e2, p2⟩ := hb
  refine .inr (.inl ⟨p, q, vs, ws, rfl, rfl, e1, e2, Nat.le_of_lt (small_line (by rw [Prd.len p1, Prd.len p2]; exact hn)), fun r nr => ?_⟩)
  have s : Same H (upd H r (.lst (vs ++ ws))) := Same.upd_new nr
  exact h _ _ nr (w.fresh nr) s (w.inside s upd_same) ⟨_, upd_same, Prd.append (Prd.monoR (fun _ _ z => Rp.inw nr s z) p1) (Prd.monoR (fun _ _ z => Rp.inw nr s z) p2)⟩
end

/-! ## try: .., except X as n: .., where what stands behind still holds the exception -/
def noEnds (nx : L2.St → Hp → Prop) : Ends := { nx := nx, rt := fun _ _ => False, bk := fun _ _ => False, ct := fun _ _ => False }
def wKeep (K : Fg) (c : Value) (i : Nat) (ts tr : Addr → Value → Option Addr → TS) (D : Ends) : WX := fun cls d σ H =>
  PySem.W.exmOne K cls c = some true ∧ ∀ a, H a = none → ts a cls d (noEnds fun σ' H' => tr a cls d D (σ'.set i none) H') (σ.set i (some (.ref a))) H
/-- the clauses, asked for an exception in flight -/
def Asked (X : Cx) (hds : List ExceptHandler) (Z : Flow → Shared → Prop) (e : Value) (s : Shared) : Prop :=
  wpAny (model X.prog X.w) X.A (noteFrame e X.env)
    (fun _ s1 => wpAny (model X.prog X.w) X.A (setFlight e none)
      (fun _ s2 => wpAny (model X.prog X.w) X.A (handleBy e X.env hds) Z X.xe s2) X.xe s1) X.xe s
/-- the pinned exception stays known when its clause is left -/
theorem Inv.keepPin {X : Cx} {pins : List (Addr × Obj)} {a : Addr} {oe : Obj} {σ : L2.St} {H : Hp} {s : Shared} (ok : X.Ok) (I : Inv (X.suite a ((a, oe) :: (X.pn ++ pins))) [] σ H s) : Inv (X.tr ((a, oe) :: (X.pn ++ pins)) X.xe) [] σ H s :=
  ⟨ok.toTry _ _, I.os, I.bare, I.base, I.loc, I.cell, I.free, I.freeC, I.pin, I.hok, I.len⟩
theorem Inv.dropPin {X : Cx} {pins pins' : List (Addr × Obj)} {q : Addr × Obj} {σ : L2.St} {H : Hp} {s : Shared} (ok : X.Ok) (I : Inv (X.tr (q :: (X.pn ++ pins)) X.xe) pins' σ H s) : Inv X pins σ H s :=
  ⟨ok, I.os, I.bare, I.base, I.loc, I.cell, I.free, I.freeC, fun p hp => I.pin p (.tail _ hp |> List.mem_append_left _), I.hok, I.len⟩
theorem SP.dropPin {X : Cx} {pins pins' : List (Addr × Obj)} {q : Addr × Obj} {D : Ends} {f : Flow} {s : Shared} (ok : X.Ok) (h : SP (X.tr (q :: (X.pn ++ pins)) X.xe) pins' D f s) : SP X pins D f s := by
  cases f
  case ret u =>
    obtain ⟨v, σ1, H1, J, r, z⟩ := h
    exact ⟨v, σ1, H1, Inv.dropPin ok J, r, z⟩
  all_goals
    obtain ⟨σ1, H1, J, z⟩ := h
    exact ⟨σ1, H1, Inv.dropPin ok J, z⟩
theorem pss_keep {X : Cx} {i : Nat} {n x : Str} {c : Value} {body suite rest : List Stmt} {b₀ : Stmt} {np pos pos' : Pos} {tb : WX → TS} {ts tr : Addr → Value → Option Addr → TS} {t0 : TS}
    (hs : X.stack = X.env :: X.outer) (hf : X.env.frame = some X.env.locals) (hN : X.N.Nodup) (hi : X.N[i]? = some n) (hln : X.env.kindOf n = some .local) (hc : Names X x c)
    (hb : ∀ (W : WX) (pn : List (Addr × Obj)) (xe : Value → Shared → Prop), Takes (X.tr pn xe) W → PSs (X.tr pn xe) body (tb W))
    (hsu : ∀ (a : Addr) (oe : Obj) (cls : Value) (d : Option Addr) (pn : List (Addr × Obj)), Zc cls d oe → (∃ vs, oe.data = .fields vs) → PSs (X.suite a ((a, oe) :: pn)) (b₀ :: suite) (ts a cls d))
    (h0 : PSs X rest t0)
    (hr : ∀ (a : Addr) (oe : Obj) (cls : Value) (d : Option Addr) (pn : List (Addr × Obj)), Zc cls d oe → (∃ vs, oe.data = .fields vs) → PSs (X.tr ((a, oe) :: pn) X.xe) rest (tr a cls d)) :
    PSs X (.Try body [.ExceptHandler (some (.Name x np)) (some n) (b₀ :: suite) pos'] [] [] pos :: rest) (fun D σ H => tb (wKeep X.K c i ts tr D) { D with nx := t0 D } σ H) := by
  constructor
  intro pins s σ H D I h
  have ok := I.ok
  apply wpAny_execs_cons
  apply wpAny_Try_except
  have tk : Takes (X.tr (X.pn ++ pins) (Asked X [.ExceptHandler (some (.Name x np)) (some n) (b₀ :: suite) pos'] fun f s' => match f with | .next => wpAny (model X.prog X.w) X.A (execs rest X.env) (SP X pins D) X.xe s' | f => SP X pins D f s')) (wKeep X.K c i ts tr D) := by
    rintro u s1 ⟨a, B, sI, ps, σ1, H1, cls, d, rfl, J0, nb, up, sky, na, os, ag, m1, m2⟩
    have J := J0.ofTry ok
    have fr : X.A.frames = some (X.env :: X.outer) := ok.frames.trans (congrArg some hs)
    refine Sky.land Zc.steady fr hf (hs ▸ sky) fun g fl u1 => ?_
    have J1 : Inv X pins σ1 H1 { s1 with heap := g } := J.landed nb fl.1 (up.trans u1) os ag
    obtain ⟨o1, vs1, g1, zc1, dd1⟩ := fl.there
    have out : a ∉ frs (X.env :: X.outer) := fun hm => by
      obtain ⟨_, o', g', nf⟩ := fl.2.2.1.mem hm
      cases g1.symm.trans g'
      exact nf _ dd1
    have aL : a ≠ X.env.locals := fun z => out (List.mem_filterMap.mpr ⟨X.env, .head _, by rw [hf, z]⟩)
    have aF : a ∉ X.fs := fun hm => by
      obtain ⟨e, m, q⟩ := List.mem_filterMap.mp hm
      exact out (List.mem_filterMap.mpr ⟨e, .tail _ m, q⟩)
    have S1 := J1.suite g1 dd1 na aL aF
    have ty : PySem.W.Looks (model X.prog X.w) g (typeOf (.ref a)) cls := fun _ _ _ _ k q => wpAny_typeOf_ref (k _ _ g1) (zc1.1.symm ▸ q)
    refine wpAny_handleBy_cons ?_ (by simp [byPass])
    apply codeAny_handlers_test
    have ask : ∀ {Q : Value → Shared → Prop} {E : Value → Shared → Prop}, Q c { s1 with heap := g } → wpAny (model X.prog X.w) (X.A.mark (some (.ref a))) (eval (.Name x np) X.env) Q E { s1 with heap := g } := by
      intro Q E q
      rcases hc with ⟨h1, h2, z | ⟨z1, z2, z3⟩⟩
      · exact ld_glob S1 h1 z q h2
      · exact ld_blt S1 h1 z1 z2 q z3 h2
    refine ask ((PySem.W.exm_one J1.kIn ty m1).here ?_)
    apply codeAny_handlers_suite_as
    refine HandSPX.lands_againZ fl fun g2 fl2 u2 => ?_
    have J2 : Inv X pins σ1 H1 { s1 with heap := g2 } := J.landed nb fl2.1 ((up.trans u1).trans u2) os ag
    obtain ⟨o2, vs2, e2, zc2, dd2⟩ := fl2.there
    refine store_ok (X := X.suite a ((a, o2) :: (X.pn ++ pins))) (v := .ref a) (J2.suite e2 dd2 na aL aF) hN hi (.inl hln) rfl (fun s5 S5 => ?_) (.inr hln)
    refine wpAny_mono ((hsu a o2 cls d (X.pn ++ pins) zc2 ⟨_, dd2⟩).run [] s5 _ H1 _ S5 (m2 a na)) (fun f s6 hsp => ?_) (fun _ _ z => z.elim)
    cases f with
    | next =>
      obtain ⟨σ6, H6, S6, q6⟩ := hsp
      exact gone_ok (X := X.tr ((a, o2) :: (X.pn ++ pins)) X.xe) (Inv.keepPin ok S6) hN hi hln fun s7 S7 => thn ((hr a o2 cls d (X.pn ++ pins) zc2 ⟨_, dd2⟩).run [] s7 _ _ D S7 q6) fun f s8 h8 => SP.dropPin ok h8
    | brk => obtain ⟨_, _, _, z⟩ := hsp; exact z.elim
    | cont => obtain ⟨_, _, _, z⟩ := hsp; exact z.elim
    | ret u => obtain ⟨_, _, _, _, _, z⟩ := hsp; exact z.elim
  refine wpAny_mono ((hb _ _ _ tk).run [] s σ H _ (I.toTry _) h) (fun f s1 hsp => ?_) (fun e s1 he => he)
  cases f with
  | next =>
    obtain ⟨σ1, H1, J, q⟩ := hsp
    exact wpAny_execs_nil (h0.run pins s1 σ1 H1 D (J.ofTry ok) q)
  | ret u =>
    obtain ⟨v, σ1, H1, J, r, q⟩ := hsp
    exact ⟨v, σ1, H1, J.ofTry ok, r, q⟩
  | brk =>
    obtain ⟨σ1, H1, J, q⟩ := hsp
    exact ⟨σ1, H1, J.ofTry ok, q⟩
  | cont =>
    obtain ⟨σ1, H1, J, q⟩ := hsp
    exact ⟨σ1, H1, J.ofTry ok, q⟩
/-! ## isinstance of a pinned exception, one class or a tuple of classes -/
def rIsP (K : Fg) (D a : Addr) : List V → Hp → VK → Prop := fun xs H Q => ∃ (c : V) (b : Bool), xs = [.ref a, c] ∧
  ((∃ cv : Value, (∀ u, RelV c u → u = cv) ∧ PySem.W.kitOne K (.ref D) cv = some b) ∨
    ∃ (tp : Addr) (cs : List V) (cvs : List Value), c = .ref tp ∧ SqT K H tp cs ∧ (∀ us, Vals cs us → us = cvs) ∧ PySem.W.kitAny K (.ref D) cvs = some b) ∧ Q (.bl b) H
theorem pin_inst {X : Cx} {pins : List (Addr × Obj)} {σ : L2.St} {H : Hp} {s : Shared} {a D : Addr} {oe : Obj} (I : Inv X pins σ H s) (hm : (a, oe) ∈ X.pn) (hz : Zc (.ref D) none oe) (hf : ∃ vs, oe.data = .fields vs) : PySem.W.InstAt s.heap a oe D none := by
  have g := (I.pin (a, oe) (List.mem_append_left _ hm)).1
  cases oe with
  | mk c d da sl =>
    obtain ⟨vs, hv⟩ := hf
    cases hv
    cases hz.1
    cases hz.2
    exact ⟨g, rfl, rfl, trivial⟩
theorem call_isP {X : Cx} {K : Fg} {a D : Addr} {oe : Obj} (hK : X.K = K) (C : ExcC K D) (hm : (a, oe) ∈ X.pn) (hz : Zc (.ref D) none oe) (hf : ∃ vs, oe.data = .fields vs) : CallR X (.builtin "isinstance") (rIsP K D a) := by
  subst hK
  rintro pins s σ H xs us Q I r ⟨c, b, rfl, h, q⟩
  rcases r with _ | ⟨r1, r⟩
  rcases r with _ | ⟨r2, r⟩
  cases r
  cases r1
  have J := pin_inst I hm hz hf
  have kx := PySem.W.handS_kitx_exc (x := a) (ox := oe) C.hg C.hk C.hs C.hd C.ha C.hn C.ht C.hm
  rcases h with ⟨cv, hcv, e⟩ | ⟨tp, cs, cvs, rfl, ht, hcv, e⟩
  · cases hcv _ r2
    exact PySem.W.kia_one kx I.kIn J e (fun z => nomatch z) fun tk => ⟨.bl b, H, I.kept (t' := tk) fun _ _ z => z, rfl, q⟩
  · cases r2
    obtain ⟨its, rv, ⟨o, hl, hc, n, hs⟩, _⟩ := I.tuple ht
    cases hcv _ rv
    cases o with
    | mk c d da sl =>
      cases hc
      cases hs
      exact PySem.W.kia_tup kx I.kIn J hl e (fun z => nomatch z) fun tk => ⟨.bl b, H, I.kept (t' := tk) fun _ _ z => z, rfl, q⟩
/-! ## f(lambda: e), whatever f makes of it -/
abbrev TTy := (XK → Hp → VK → Prop) → Hp → VK → Prop
structure CalT (K : Fg) (mg : Str → Option Value) (x a : Str) (TT : TTy) : Prop where
  ex : ∃ (g : Addr) (pg : Arguments) (bg : List Stmt) (sg : Scope) (dV kV doc pm cdv ct oc : Value) (an od : Option Addr) (osl : Array (Option Value)) (Ng : List Str),
    K.lookup g = some ⟨oc, od, .func (PySem.W.fnOf x x pg bg sg dV kV doc pm an cdv ct), osl⟩ ∧ mg x = some (.ref g) ∧ PySem.W.keepIn K (.ref g) = true ∧ PySem.W.codeIn K cdv x = true ∧
    L2.Binds K (PySem.W.fnOf x x pg bg sg dV kV doc pm an cdv ct) [a] [] ∧ FnScope Ng [a] sg ∧ Ng[0]? = some a ∧ Vis sg a ∧ ∀ (X : Cx) (q : Str), X.K = K → X.mg = mg → LamX.GivesTo X Ng x sg g cdv bg a q TT
theorem pe_lamT {X : Cx} {x a : Str} {c P : Addr} {TT : TTy} {k : Nat} {params : Arguments} {body : Expr} {scope : Scope} {t : XK → TE} {p lpos pos : Pos} {q : Str} (G : CalT X.K X.mg x a TT) (hg : Gl X x) (TB : LamX.TabB X.base X.mg c P) (hcode : X.env.code = .ref c) (hq : X.env.qual ++ "<lambda>" = q)
    (hr : Room (k + 2) X.A) (L : LamX.LamS X.env.scope scope) (hdef : defaultsOf params X.env = ([], [])) (hbind : ∀ (q : Str) (cl : List (Str × Addr)) (pm cv ctv : Value), bindArgs (PySem.W.kla_fn "<lambda>" q params body scope cl pm cv ctv) ⟨[], []⟩ = pure [])
    (hbody : ∀ (A : Around) (outer : List Env) (s : Shared) (H : Hp) (E : XK) (f c' : Addr), Room k (A.deeper (LamX.lamEnv X scope s.heap.objs.size f c')) → PE (LamX.lamCx X A outer s H E scope f c') body (t E))
    (hdb : (x == ("__debug__" : Str)) = false := by decide) (hd : (a == ("__debug__" : Str)) = false := by decide) (hcd : (a == ("__classdict__" : Str)) = false := by decide) :
    PE X (.Call (.Name x p) [.Lambda params body scope lpos] [] pos) (LamX.tLam [(P, q)] TT t) := by
  subst hq
  obtain ⟨g, pg, bg, sg, dV, kV, doc, pm, cdv, ct, oc, an, od, osl, Ng, lk, hm, hk, hc, hb, Sg, hNg, hva, hG⟩ := G.ex
  exact LamX.pe_lamcall (T := [(P, X.env.qual ++ "<lambda>")]) hg hm hk lk hc hb Sg hNg hva (hG X _ rfl rfl) TB hcode (by simp) (fun p hp _ => by rw [List.mem_singleton.mp hp]) hr L hdef hbind hbody hdb hd hcd
theorem pss_void {X : Cx} {st : List Stmt} : PSs X st (fun _ _ _ => False) := ⟨fun _ _ _ _ _ _ h => h.elim⟩
/-- the word for an error -/
def TWord (CT : Addr) (ret : Str) : TTy := fun tl H Q => tl (fun cls d H' => cls = .ref CT ∧ d = none ∧ ∀ H2, Same H' H2 → Q (.str ret) H2) H fun _ H' => (some (some V.non) : Option (Option V)) = some (some V.non) ∧ Q .non H'
theorem s_lamW {T : List (Addr × Str)} {CT : Addr} {ret : Str} {t : XK → TE} {σ : L2.St} {H : Hp} {Q : VK} (hT : LamX.Tabs T H) (h : ∀ H1, LamX.ExtN H H1 → LamX.Tabs T H1 → t (fun cls d H' => cls = .ref CT ∧ d = none ∧ ∀ H2, Same H' H2 → Q (.str ret) H2) σ H1 fun _ H' => (some (some V.non) : Option (Option V)) = some (some V.non) ∧ Q .non H') : LamX.tLam T (TWord CT ret) t σ H Q := ⟨hT, h⟩
/-! ## how far a position and its laps may lie -/
theorem pos_box {B : Rat} : ∀ (M : List Kn) (a : Kn) (t : Rat), Asc (a :: M) → a.1 ≤ t → (∀ k ∈ a :: M, -B ≤ k.2 ∧ k.2 ≤ B) → -B ≤ posF a M t ∧ posF a M t ≤ B
  | [], a, t, _, _, hb => hb a (.head _)
  | b :: M, a, t, h, hl, hb => by
    obtain ⟨h1, h2⟩ := List.pairwise_cons.mp h
    have lt : a.1 < b.1 := h1 b (.head _)
    unfold posF
    by_cases z : t < b.1
    · rw [if_pos z]
      have e := sl_mul lt
      have ha := hb a (.head _)
      have hb' := hb b (.tail _ (.head _))
      rcases Std.le_total (a := (0 : Rat)) (b := sl a b) with p | p
      · have x1 := Rat.mul_le_mul_of_nonneg_left (show t - a.1 ≤ b.1 - a.1 by grind) p
        have x0 := Rat.mul_nonneg p (show 0 ≤ t - a.1 by grind)
        grind
      · have x1 := Rat.mul_le_mul_of_nonneg_left (show t - a.1 ≤ b.1 - a.1 by grind) (show 0 ≤ -(sl a b) by grind)
        have x0 := Rat.mul_nonneg (show 0 ≤ -(sl a b) by grind) (show 0 ≤ t - a.1 by grind)
        grind
    · rw [if_neg z]
      exact pos_box M b t h2 (Rat.not_lt.mp z) fun k hk => hb k (.tail _ hk)
theorem bq_box {j : Nat} {q : Rat} (h : BQ j q) : -((2 ^ j : Int) : Rat) ≤ q ∧ q ≤ ((2 ^ j : Int) : Rat) := by
  have p := q_den_pos q
  have b : q.num.natAbs < 2 ^ j := h.1
  have b2 : ((2 ^ j : Nat) : Int) = (2 : Int) ^ j := by norm_cast
  have n1 : 0 ≤ (2 : Int) ^ j := by rw [← b2]; exact Int.natCast_nonneg _
  have m := Int.mul_le_mul_of_nonneg_left (show (1 : Int) ≤ (q.den : Int) by omega) n1
  constructor
  · rw [← Rat.intCast_neg, Rat.le_iff, Rat.num_intCast, Rat.den_intCast]
    have : -(2 : Int) ^ j * (q.den : Int) = -((2 : Int) ^ j * (q.den : Int)) := Int.neg_mul ..
    rw [this]
    omega
  · rw [Rat.le_iff, Rat.num_intCast, Rat.den_intCast]
    omega
theorem laps_box {L : Option Int} {x : Rat} {n : Int} (hL : LOk L) (h0 : 1 ≤ n) (h1 : -(n : Rat) ≤ x) (h2 : x ≤ (n : Rat)) : -n ≤ lapsQ L x ∧ lapsQ L x ≤ n := by
  cases L with
  | none =>
    unfold lapsQ
    simp only
    split <;> omega
  | some l =>
    have hl : 1 ≤ l := hL l rfl
    constructor
    · rw [laps_le hl]
      have : ((-n * l : Int) : Rat) ≤ ((-n : Int) : Rat) := by
        have : -n * l ≤ -n := by
          have := Int.mul_le_mul_of_nonneg_left hl (show 0 ≤ n by omega)
          rw [Int.neg_mul]
          omega
        exact_mod_cast this
      refine Rat.le_trans this ?_
      rw [Rat.intCast_neg]
      exact h1
    · have e := (laps_le hl x (lapsQ (some l) x)).mp (Int.le_refl _)
      generalize lapsQ (some l) x = m at *
      have : m * l ≤ n := by
        have := Rat.le_trans e h2
        exact_mod_cast this
      rcases Int.lt_or_le m 0 with z | z
      · omega
      · have := Int.mul_le_mul_of_nonneg_left hl z
        omega
theorem laps_gap {ks ls : List Kn} {a b : Kn} {t : Rat} {j : Nat} {L : Option Int} (hL : LOk L) (ha : Asc ks) (hb : Asc ls) (h0 : ks[0]? = some a) (g0 : ls[0]? = some b) (la : a.1 ≤ t) (lb : b.1 ≤ t) (bk : ∀ k ∈ ks, BQ j k.2) (bl : ∀ k ∈ ls, BQ j k.2) : Bd (j + 2) (lapsQ L (posAt ks t - posAt ls t)) := by
  have box : ∀ {us : List Kn} {u : Kn}, Asc us → us[0]? = some u → u.1 ≤ t → (∀ k ∈ us, BQ j k.2) → -((2 ^ j : Int) : Rat) ≤ posAt us t ∧ posAt us t ≤ ((2 ^ j : Int) : Rat) := fun {us u} h e l b => by
    match us, e with
    | v :: M, e =>
      cases e
      rw [posAt_F M u t h l]
      exact pos_box M u t h l fun k hk => bq_box (b k hk)
  obtain ⟨x1, x2⟩ := box ha h0 la bk
  obtain ⟨y1, y2⟩ := box hb g0 lb bl
  have e2 : ((2 ^ (j + 1) : Int) : Rat) = ((2 ^ j : Int) : Rat) + ((2 ^ j : Int) : Rat) := by
    rw [← Rat.intCast_add]
    congr 1
    rw [Int.pow_succ]
    omega
  have p1 : ((2 ^ (j + 1) : Nat) : Int) = (2 : Int) ^ (j + 1) := by norm_cast
  have p2 := Nat.two_pow_pos (j + 1)
  obtain ⟨z1, z2⟩ := laps_box (x := posAt ks t - posAt ls t) (n := 2 ^ (j + 1)) hL (by omega) (by rw [e2]; grind) (by rw [e2]; grind)
  unfold Bd
  have : 2 ^ (j + 2) = 2 ^ (j + 1) + 2 ^ (j + 1) := by rw [Nat.pow_succ 2 (j + 1)]; omega
  omega

/-! ## texts, as lists of codes -/
def rTx : Rp (List Nat) := fun _ _ _ v l => v = .str (SX.S l)
instance : Mono rTx := ⟨fun _ h => h⟩
def rCh : Rp Nat := fun _ _ _ v c => v = .str ⟨#[c]⟩
instance : Mono rCh := ⟨fun _ h => h⟩
theorem tx_slash : Str.ofString "/" = SX.S [47] := by decide +kernel
theorem tx_colon : Str.ofString ":" = SX.S [58] := by decide +kernel
theorem tx_blank : Str.ofString " " = SX.S [32] := by decide +kernel
theorem tx_minus : Str.ofString "-" = SX.S [45] := by decide +kernel
theorem tx_zero : Str.ofString "0" = SX.S [48] := by decide +kernel
theorem tx_digits : Str.ofString "0123456789" = SX.S [48, 49, 50, 51, 52, 53, 54, 55, 56, 57] := by decide +kernel
def intL (i : Int) : List Nat := if i < 0 then 45 :: TL.numL i.natAbs else TL.numL i.natAbs
theorem int_tx (i : Int) : Str.ofString (toString i) = SX.S (intL i) := by
  cases i with
  | ofNat n =>
    have e : intL (Int.ofNat n) = TL.numL n := by
      unfold intL
      rw [if_neg (by have : (0 : Int) ≤ Int.ofNat n := Int.natCast_nonneg n; omega)]
      rfl
    rw [e]
    exact SX.num_S n
  | negSucc m =>
    have e : intL (Int.negSucc m) = 45 :: TL.numL (m + 1) := by
      unfold intL
      rw [if_pos (Int.negSucc_lt_zero m)]
      rfl
    rw [e]
    refine TL.ext_tl ?_
    have h1 := TL.tl_num (m + 1)
    rw [TL.tl_ofString] at h1
    rw [TL.tl_ofString]
    show (toString (Int.negSucc m)).toList.map Char.toNat = 45 :: TL.numL (m + 1)
    have h2 : toString (Int.negSucc m) = "-" ++ toString (((m + 1 : Nat) : Int)) := rfl
    rw [h2, String.toList_append, List.map_append, h1]
    rfl
/-- the text of a fraction, of a knot, of knots -/
def fT (q : Rat) : List Nat := if q.den = 1 then intL q.num else intL q.num ++ 47 :: TL.numL q.den
def kT (k : Kn) : List Nat := fT k.1 ++ 58 :: fT k.2
def rowsT (ks : List Kn) : List Nat := TL.joinL [32] (ks.map kT)
/-- at most sixty digits -/
def D60 (q : Rat) : Prop := q.num.natAbs < 10 ^ 60 ∧ q.den < 10 ^ 60
theorem numL_char {n c : Nat} (h : c ∈ TL.numL n) : 48 ≤ c ∧ c ≤ 57 := by
  have := TL.numL_digits n c h
  omega
theorem intL_char {i : Int} {c : Nat} (h : c ∈ intL i) : c = 45 ∨ (48 ≤ c ∧ c ≤ 57) := by
  unfold intL at h
  split at h
  · rcases List.mem_cons.mp h with h | h
    · exact .inl h
    · exact .inr (numL_char h)
  · exact .inr (numL_char h)
theorem fT_char {q : Rat} {c : Nat} (h : c ∈ fT q) : c = 45 ∨ c = 47 ∨ (48 ≤ c ∧ c ≤ 57) := by
  unfold fT at h
  split at h
  · rcases intL_char h with h | h
    · exact .inl h
    · exact .inr (.inr h)
  · rcases List.mem_append.mp h with h | h
    · rcases intL_char h with h | h
      · exact .inl h
      · exact .inr (.inr h)
    · rcases List.mem_cons.mp h with h | h
      · exact .inr (.inl h)
      · exact .inr (.inr (numL_char h))
theorem fT_no {q : Rat} : 58 ∉ fT q ∧ 32 ∉ fT q := ⟨fun h => by have := fT_char h; omega, fun h => by have := fT_char h; omega⟩
theorem kT_no {k : Kn} : 32 ∉ kT k := fun h => by
  rcases List.mem_append.mp h with h | h
  · exact fT_no.2 h
  · rcases List.mem_cons.mp h with h | h
    · omega
    · exact fT_no.2 h
theorem numL_len60 {n : Nat} (h : n < 10 ^ 60) : (TL.numL n).length ≤ 60 := TL.numL_len (by decide) h
theorem intL_len {i : Int} (h : i.natAbs < 10 ^ 60) : (intL i).length ≤ 61 := by
  have := numL_len60 h
  unfold intL
  split
  · rw [List.length_cons]; omega
  · omega
theorem fT_len {q : Rat} (h : D60 q) : (fT q).length ≤ 122 := by
  have h1 := intL_len h.1
  have h2 := numL_len60 h.2
  unfold fT
  split
  · omega
  · rw [List.length_append, List.length_cons]; omega
theorem kT_len {k : Kn} (h1 : D60 k.1) (h2 : D60 k.2) : (kT k).length ≤ 245 := by
  have := fT_len h1
  have := fT_len h2
  unfold kT
  rw [List.length_append, List.length_cons]; omega
theorem sep256 {c : Nat} (h : c < 256) : [c].all (· < 256) = true := by simp [h]
theorem split_one {c : Nat} (h : c < 256) {p : List Nat} (n : c ∉ p) : Txt.split (SX.S p) (SX.S [c]) = [SX.S p] := by
  rw [SX.split_S (by simp) (sep256 h), TL.spl_last1 n]
  rfl
theorem split_two {c : Nat} (h : c < 256) {p q : List Nat} (n : c ∉ p) (m : c ∉ q) : Txt.split (SX.S (p ++ c :: q)) (SX.S [c]) = [SX.S p, SX.S q] := by
  rw [SX.split_S (by simp) (sep256 h)]
  have e : p ++ c :: q = TL.joinL [c] [p, q] := rfl
  rw [e, SX.spl_join (by simp) (fun z hz => by
    simp only [List.mem_cons, List.not_mem_nil, or_false] at hz
    rcases hz with rfl | rfl <;> assumption)]
  rfl
theorem split_rows {ks : List Kn} (h : ks ≠ []) : Txt.split (SX.S (rowsT ks)) (SX.S [32]) = (ks.map kT).map SX.S := by
  rw [SX.split_S (by simp) (sep256 (by decide))]
  unfold rowsT
  rw [SX.spl_join (by simpa using h) (fun z hz => by
    obtain ⟨k, _, rfl⟩ := List.mem_map.mp hz
    exact kT_no)]
theorem starts_one (c : Nat) (l : List Nat) : Txt.startswith (SX.S l) (SX.S [c]) = decide (l[0]? = some c) := by
  have e := PySem.StrLaws.subAt_one (SX.S l) c 0
  by_cases z : l[0]? = some c
  · obtain ⟨h1, h2⟩ := e.mpr z
    rw [decide_eq_true z]
    unfold Txt.startswith
    rw [h2, Bool.and_true]
    exact decide_eq_true h1
  · rw [decide_eq_false z]
    unfold Txt.startswith
    refine Bool.eq_false_iff.mpr fun h => z (e.mp ?_)
    simp only [Bool.and_eq_true, decide_eq_true_eq] at h
    exact h
theorem numL_first (n : Nat) : ∃ c, (TL.numL n)[0]? = some c ∧ 48 ≤ c ∧ c ≤ 57 ∧ (n ≠ 0 → c ≠ 48) := by
  induction n using Nat.strongRecOn with
  | _ n ih =>
    by_cases h : n < 10
    · rw [TL.numL_lt h]
      exact ⟨48 + n, rfl, by omega, by omega, fun z => by omega⟩
    · obtain ⟨c, h1, h2, h3, h4⟩ := ih (n / 10) (by omega)
      rw [TL.numL_step (by omega)]
      refine ⟨c, ?_, h2, h3, fun _ => h4 (by omega)⟩
      rw [List.getElem?_append_left (by have := (List.getElem?_eq_some_iff.mp h1).1; omega)]
      exact h1
theorem numL_pos (n : Nat) : 1 ≤ (TL.numL n).length := List.length_pos_iff.mpr (TL.numL_ne n)
theorem int_num (n : Nat) (h : n < 10 ^ 60) : intText? (SX.S (TL.numL n)) = some (n : Int) := by
  rw [SX.int_S (List.all_eq_true.mpr fun c hc => by have := numL_char hc; simp; omega) (TL.numL_ne n) (by have := numL_len60 h; omega), TL.numL_val]
/-! ## values of constants; rules for texts -/
def CstV (mg : Str → Option Value) (x : Str) (v : V) : Prop := ∃ u, mg x = some u ∧ RelV v u
theorem s_lcS {tl : TE} {g : TG} {tt : TT} {te : TE} {vs : List Nat} {σ : L2.St} {H : Hp} {Q : VK} (h : tl σ H fun v H1 => ∃ x, v = .str x ∧ LcJ g tt te vs σ H1 Q (Its x)) : tLc (iStr tl) g tt te vs σ H Q := h
theorem lc_str {β : Type} {B : Rp β} [Mono B] {K : Fg} {M : Ms} {g : TG} {tt : TT} {te : TE} {vs : List Nat} {σ : L2.St} {H1 : Hp} {Q : VK} {l : List Nat} (c : Nat → Bool) (f : Nat → β) (w : Own M H1) (hn : l.length < 100000)
    (hs : ∀ (i : Nat) (a : Nat) (v : V) (M' : Ms) (H2 : Hp) (Z : VK) (N : Hp → Prop), l[i]? = some a → Tr M H1 M' H2 → Own M' H2 → rCh K M' H2 v a →
      (c a = true → ∀ y H4, Same H2 H4 → B K M' H4 y (f a) → Z y H4) → (c a = false → ∀ H3, Same H2 H3 → N H3) → LcTurn g tt te vs σ H2 v Z N)
    (h : ∀ v H', Same H1 H' → rS B K M H' v ((l.filter c).map f) → Q v H') : LcJ g tt te vs σ H1 Q (Its (SX.S l)) := by
  have W := walk_str (z := SX.S l)
  have e : (SX.S l).cps.size = l.length := by simp
  rw [e] at W
  refine lc_mapW (A := rCh) (K := K) (M := M) l c f W (fun _ _ _ _ => trivial) ?_ w hn hs h
  rintro i M' H x H' hi t o ⟨rfl, a, ha, rfl⟩
  have ha' : l[i]? = some a := by simpa using ha
  exact ⟨a, ha', Same.refl _, rfl⟩
def rAddT (K : Fg) : R2 := fun x y H Q => rAddA K x y H Q ∨ ∃ i j, x = .str i ∧ y = .str j ∧ i.length + j.length ≤ sizeLine ∧ Q (.str (i ++ j)) H
theorem opAddT {X : Cx} : OpR X (binaryOp .Add) (rAddT X.K) := opAdd.or op_add_str
theorem opAddTK {X : Cx} (K : Fg) (h : X.K = K := by rfl) : OpR X (binaryOp .Add) (rAddT K) := by subst h; exact opAddT
theorem s_addT {K : Fg} {a b : List Nat} {H : Hp} {Q : VK} (h : a.length + b.length ≤ 100000) (q : Q (.str (SX.S (a ++ b))) H) : rAddT K (.str (SX.S a)) (.str (SX.S b)) H Q := by
  refine .inr ⟨_, _, rfl, rfl, ?_, ?_⟩
  · rw [SX.S_len, SX.S_len]
    exact Nat.le_trans h (by decide)
  · rw [SX.S_cat]; exact q
/-- None, or anything, in a tuple of data -/
def rInT (K : Fg) : R2 := fun x y H Q => ∃ d ds, Dp K H x d ∧ Dp K H y (.tuple ds) ∧ SeqAt.shaped d = true ∧ SeqAt.shaped (.tuple ds) = true ∧ Q (.bl (ds.any fun z => PyData.eqv z d)) H
theorem op_inT {X : Cx} (hu : X.A.units + 65 < cLine) : OpR X (compareOp .In) (rInT X.K) := by
  rintro pins s σ H x y v u Q I rx ry ⟨d, ds, hd, he, sd, se, q⟩
  obtain ⟨as, r1⟩ := Dp.reads I d x v hd rx
  obtain ⟨bs, r2⟩ := Dp.reads I (.tuple ds) y u he ry
  cases r2 with
  | tuple h1 h2 h3 h4 => exact SeqAt.in_tupleAt _ ⟨_, h1, h2, _, h3⟩ (SeqAt.items_eqAt h4 r1 (SeqAt.canLay_of_shaped se) (SeqAt.canLay_of_shaped sd) (room_in_shaped sd hu)) (by rw [SeqAt.any_by_data h4 (SeqAt.canLay_of_shaped se)]; exact ⟨.bl _, H, I, rfl, q⟩)
theorem opInTK {X : Cx} (K : Fg) (hu : X.A.units + 65 < cLine) (h : X.K = K := by rfl) : OpR X (compareOp .In) (rInT K) := by subst h; exact op_inT hu
theorem hu65 {k : Nat} {A : Around} (r : Room k A) : A.units + 65 < cLine := by
  have := r.un
  omega
/-! ## f(k = v) -/
theorem pe_calK0 {X : Cx} {CX : CXT} {k : Nat} {x : Str} {ps ks : List Str} {sp : Sp} {E : XK} {p pos : Pos} {kws : List Keyword} {tk : TA} (G : CalKw X.prog X.w X.K X.mg X.base CX k x ps 0 ks sp) (hr : Room k X.A) (hg : Gl X x) (hx : Passes CX X E)
    (hkw : PK X kws tk) (hall : (backToKw pos (keywordEach kws X.env)).all (·.1.isSome) = true := by rfl) (hks : (backToKw pos (keywordEach kws X.env)).filterMap (·.1) = ks := by rfl)
    (hdb : (x == ("__debug__" : Str)) = false := by decide)
    (hpl : ((backTo pos (starEach [] X.env)).any (·.1) || (backToKw pos (keywordEach kws X.env)).any (·.1.isNone)) = false := by rfl) :
    PE X (.Call (.Name x p) [] kws pos) (tCallN 0 ks.length sp (fun vs zs => vs ++ zs) E tNil tk) := by
  obtain ⟨f, fd, g, F, hm, hk, hb⟩ := G.ex
  constructor
  intro pins s σ H Q I h
  apply wpAny_Call_Name_kw
  refine ld_glob I hg hm (PySem.W.callWith_KW0 (h₀ := X.base) I.ok.mod.kin hk hall (thn (hkw.run pos pins s σ H _ I h) ?_) hpl) hdb
  rintro ws s2 ⟨zs, H2, I2, rz, l1, l2, q2⟩
  exact ⟨I2.kIn, hks ▸ run_fnN (us := []) (vs := []) F hr hb hx I2 .nil rz rfl l2 q2⟩
theorem intL_nat (n : Nat) : intL (n : Int) = TL.numL n := by
  unfold intL
  rw [if_neg (by omega)]
  rfl
theorem log_60 {n : Nat} (h : n < 10 ^ 60) : n.log2 < 1920 := by
  rcases Nat.eq_zero_or_pos n with z | z
  · rw [z]; decide
  · exact (Nat.log2_lt (by omega)).mpr (Nat.lt_trans h (by decide +kernel))
theorem s_strI {i : Int} {H : Hp} {Q : VK} (h : i.natAbs < 10 ^ 60) (q : Q (.str (SX.S (intL i))) H) : ∃ j : Int, [V.int i] = [V.int j] ∧ j.natAbs.log2 < 1920 ∧ Q (.str (Str.ofString (toString j))) H := ⟨i, rfl, log_60 h, by rw [int_tx]; exact q⟩
theorem s_strJ {i : Int} {H : Hp} {Q : VK} (h : i.natAbs < 10 ^ 60) (q : Q (.str (SX.S (intL i))) H) : i.natAbs.log2 < 1920 ∧ Q (.str (Str.ofString (toString i))) H := ⟨log_60 h, by rw [int_tx]; exact q⟩
theorem s_fmtI {i : Int} {H : Hp} {Q : VK} (h : i.natAbs < 10 ^ 60) (q : Q (.str (SX.S (intL i))) H) : (∃ y : Str, V.int i = .str y ∧ y.length ≤ sizeLine ∧ Q (.str y) H) ∨ ∃ j : Int, V.int i = V.int j ∧ j.natAbs.log2 < 1920 ∧ Q (.str (Str.ofString (toString j))) H := .inr ⟨i, rfl, log_60 h, by rw [int_tx]; exact q⟩
theorem s_fmtS {l : List Nat} {H : Hp} {Q : VK} (h : l.length ≤ 100000) (q : Q (.str (SX.S l)) H) : (∃ y : Str, V.str (SX.S l) = .str y ∧ y.length ≤ sizeLine ∧ Q (.str y) H) ∨ ∃ j : Int, V.str (SX.S l) = V.int j ∧ j.natAbs.log2 < 1920 ∧ Q (.str (Str.ofString (toString j))) H := .inl ⟨_, rfl, by rw [SX.S_len]; exact Nat.le_trans h (by decide), q⟩
section
variable {te : TE} {ts : List TE} {acc l : List Nat} {σ : L2.St} {H : Hp} {Q : Str → Hp → Prop}
theorem js_int {i : Int} (e : ∀ R : VK, R (.int i) H → te σ H R) (h : i.natAbs < 10 ^ 60) (hl : acc.length + 61 ≤ 100000) (k : tJs ts (SX.S (acc ++ intL i)) σ H Q) : tJs (tFmt te :: ts) (SX.S acc) σ H Q :=
  e _ (.inr ⟨i, rfl, log_60 h, _, rfl, by
    have := intL_len h
    rw [int_tx, SX.S_cat, SX.S_len, List.length_append]
    exact Nat.le_trans (show _ ≤ 100000 by omega) (by decide), by rw [int_tx, SX.S_cat]; exact k⟩)
theorem js_txt (e : ∀ R : VK, R (.str (SX.S l)) H → te σ H R) (hl : acc.length + l.length ≤ 100000) (k : tJs ts (SX.S (acc ++ l)) σ H Q) : tJs (tFmt te :: ts) (SX.S acc) σ H Q :=
  e _ (.inl ⟨_, rfl, by rw [SX.S_len]; exact Nat.le_trans (show _ ≤ 100000 by omega) (by decide), _, rfl, by
    rw [SX.S_cat, SX.S_len, List.length_append]
    exact Nat.le_trans hl (by decide), by rw [SX.S_cat]; exact k⟩)
theorem js_con {s : Str} (e : s = SX.S l) (hl : acc.length + l.length ≤ 100000) (k : tJs ts (SX.S (acc ++ l)) σ H Q) : tJs (tC (.str s) :: ts) (SX.S acc) σ H Q :=
  ⟨s, rfl, by rw [e, SX.S_cat, SX.S_len, List.length_append]; exact Nat.le_trans hl (by decide), by rw [e, SX.S_cat]; exact k⟩
theorem js_end (k : Q (SX.S acc) H) : tJs [] (SX.S acc) σ H Q := k
end
/-! ## comprehensions whose elements are drawn -/
section
variable {α β : Type} {A : Rp α} {B : Rp β} [Mono A] [Mono B] {K : Fg} {M : Ms} {g : TG} {tt : TT} {te : TE} {vs : List Nat} {σ : L2.St} {H1 : Hp} {Q : VK} {d : Addr} {l : LI} {N c : Nat}
theorem lc_drawR {lo : Int} {n : Nat} (P : β → Prop) (md : M d) (ml : M l.1) (h0 : StAt H1 d l N) (w : Own M H1) (hn : n < 100000)
    (hs : ∀ (i : Nat) (M' : Ms) (H2 : Hp) (Z : VK) (N' : Hp → Prop), i < n → Own M' H2 → M' d → M' l.1 → StAt H2 d l (N + c * i) → But d l.1 H1 H2 →
      (∀ y b H4, But d l.1 H2 H4 → StAt H4 d l (N + c * i + c) → B K M' H4 y b → P b → Z y H4) → LcTurn g tt te vs σ H2 (.int (lo + i)) Z N')
    (h : ∀ D bs H', But d l.1 H1 H' → StAt H' d l (N + c * n) → rS B K M H' (.ref D) bs → bs.length = n → (∀ b ∈ bs, P b) → Q (.ref D) H') : LcR lo n g tt te vs σ H1 Q := by
  intro D hD
  obtain ⟨nd, nl, ni⟩ := h0.apart hD
  refine lc_range (lo := lo) (n := n) (fun i H => ∃ acc bs, H D = some (.lst acc) ∧ But d l.1 H1 H ∧ StAt H d l (N + c * i) ∧ Own (mIn M D) H ∧ Paired (B K (mIn M D) H) acc bs ∧ bs.length = i ∧ ∀ b ∈ bs, P b) ?_ ?_ ?_
  · exact ⟨[], [], upd_same, But.of_sameS (Same.upd_new hD) h0, h0.same (Same.upd_new hD), w.inside (Same.upd_new hD) upd_same, .nil, rfl, fun b hb => by cases hb⟩
  · rintro i H hi ⟨acc, bs, e, b1, D1, ow, p, hl, hp⟩
    refine hs i (mIn M D) H _ _ hi ow (.inl md) (.inl ml) D1 b1 fun y b H4 b4 D4 hy hb => ?_
    have kp : ∀ a o, H4 a = some o → a ≠ D → upd H4 D (.lst (acc ++ [y])) a = some o := fun a o q n => by rw [upd_ne n]; exact q
    have la : acc.length < sizeLine := small_line (by rw [Prd.len p, hl]; omega)
    refine ⟨acc, b4.kp _ _ e nd nl, la, acc ++ [y], bs ++ [b], upd_same, (b1.trans b4).kept kp hD nd nl, (D4.kept kp nd nl ni).le (by rw [Nat.mul_succ]; omega), (Own.but b4 ow).updM, ?_, by rw [List.length_append, hl]; rfl, ?_⟩
    · exact Prd.snoc (Mono.mono Tr.updM hy) (Prd.monoR (fun _ _ z => Mono.mono Tr.updM (Rp.but b4 (.inl md) (.inl ml) z)) p)
    · intro x hx
      rcases List.mem_append.mp hx with hx | hx
      · exact hp x hx
      · rw [List.mem_singleton.mp hx]; exact hb
  · rintro H ⟨acc, bs, e, b1, D1, ow, p, hl, hp⟩
    exact h D bs H b1 D1 ⟨D, acc, rfl, w.fresh hD, e, Prd.monoR (fun _ _ z => Mono.mono Tr.outside z) p⟩ hl hp
theorem lc_drawL {x : V} {as : List α} (R : α → β → Prop) (hx : rL A K M H1 x as) (md : M d) (ml : M l.1) (h0 : StAt H1 d l N) (w : Own M H1) (hn : as.length < 100000)
    (hs : ∀ (i : Nat) (a : α) (v : V) (M' : Ms) (H2 : Hp) (Z : VK) (N' : Hp → Prop), as[i]? = some a → A K M' H2 v a → Own M' H2 → M' d → M' l.1 → StAt H2 d l (N + c * i) → But d l.1 H1 H2 →
      (∀ y b H4, But d l.1 H2 H4 → StAt H4 d l (N + c * i + c) → B K M' H4 y b → R a b → Z y H4) → LcTurn g tt te vs σ H2 v Z N')
    (h : ∀ D bs H', But d l.1 H1 H' → StAt H' d l (N + c * as.length) → rS B K M H' (.ref D) bs → Paired R as bs → Q (.ref D) H') : LcK K x g tt te vs σ H1 Q := by
  obtain ⟨a, vs', rfl, hl, hp⟩ := hx
  refine ⟨a, rfl, ⟨vs', hl.sq⟩, fun D hD => ?_⟩
  have el : vs'.length = as.length := Prd.len hp
  obtain ⟨nd, nl, ni⟩ := h0.apart hD
  have tr : ∀ {H : Hp}, But d l.1 H1 H → Tr M H1 (mIn M D) H := fun {H} b => fun b' o e m => ⟨(b.tr md ml b' o e m).1, fun z => z.elim m fun q => by subst q; rw [hD] at e; cases e⟩
  refine lc_list (K := K) (a := a) (xs := vs') (fun i H => ∃ acc bs, H D = some (.lst acc) ∧ But d l.1 H1 H ∧ StAt H d l (N + c * i) ∧ Own (mIn M D) H ∧ Paired (B K (mIn M D) H) acc bs ∧ Paired R (as.take i) bs) ?_ ?_ ?_ ?_
  · exact ⟨[], [], upd_same, But.of_sameS (Same.upd_new hD) h0, h0.same (Same.upd_new hD), w.inside (Same.upd_new hD) upd_same, .nil, .nil⟩
  · rintro i H _ ⟨acc, bs, e, b1, _⟩
    exact (hl.mono (tr b1) : LstM K (mIn M D) H a vs').sq
  · rintro i v H hv ⟨acc, bs, e, b1, D1, ow, p, hR⟩
    obtain ⟨b, hb, r⟩ := Prd.getL hp hv
    have hi : i < as.length := (List.getElem?_eq_some_iff.mp hb).1
    have et : (as.take (i + 1)) = as.take i ++ [b] := by
      rw [List.take_succ, hb]
      rfl
    refine hs i b v (mIn M D) H _ _ hb (Mono.mono (tr b1) r) ow (.inl md) (.inl ml) D1 b1 fun y b' H4 b4 D4 hy hb' => ?_
    have kp : ∀ a o, H4 a = some o → a ≠ D → upd H4 D (.lst (acc ++ [y])) a = some o := fun a o q n => by rw [upd_ne n]; exact q
    have la : acc.length < sizeLine := small_line (by
      rw [Prd.len p, ← Prd.len hR]
      have h2 := List.length_take_le i as
      omega)
    refine ⟨acc, b4.kp _ _ e nd nl, la, acc ++ [y], bs ++ [b'], upd_same, (b1.trans b4).kept kp hD nd nl, (D4.kept kp nd nl ni).le (by rw [Nat.mul_succ]; omega), (Own.but b4 ow).updM, ?_, ?_⟩
    · exact Prd.snoc (Mono.mono Tr.updM hy) (Prd.monoR (fun _ _ z => Mono.mono Tr.updM (Rp.but b4 (.inl md) (.inl ml) z)) p)
    · rw [et]
      exact Prd.snoc hb' hR
  · rintro H ⟨acc, bs, e, b1, D1, ow, p, hR⟩
    rw [el] at D1
    rw [el, List.take_length] at hR
    exact h D bs H b1 D1 ⟨D, acc, rfl, w.fresh hD, e, Prd.monoR (fun _ _ z => Mono.mono Tr.outside z) p⟩ hR
end

/-! ## dict(pairs) whose keys are tuples, and list(that) -/
abbrev KK : Type := List Key
/-- the dict at p; its keys are the objects cs, in order -/
def KeysO (p : Addr) (cs : List Addr) : HO := .ext fun h => (p == sysModules) = false ∧ cs.length ≤ sizeLine ∧ ∃ o es ep, h.get? p = some o ∧ o.ExactDict ∧ o.data = .dict es ep ∧ es.toList.map (·.key) = cs.map Value.ref
/-- a key, its object, its value -/
abbrev Trp : Type := KK × Addr × V
/-- the first object of each key -/
def firstsA : List (KK × Addr) → List Trp → List (KK × Addr)
  | acc, [] => acc
  | acc, t :: r => firstsA (if (acc.any fun x => decide (x.1 = t.1)) = true then acc else acc ++ [(t.1, t.2.1)]) r
def rDictT (K : Fg) : List V → Hp → VK → Prop := fun xs H Q => ∃ (a : Addr) (ps : List Addr) (tr : List Trp), xs = [.ref a] ∧ SqL K H a (ps.map V.ref) ∧
  Paired (fun p (t : Trp) => SqT K H p [.ref t.2.1, t.2.2] ∧ SqT K H t.2.1 (t.1.map kV)) ps tr ∧ ∀ p, H p = none → Q (.ref p) (upd H p (KeysO p ((firstsA [] tr).map (·.2))))
abbrev kTm (P : Program) (w : World) := tupleKind (mixKind P w)
theorem stored_firsts (P : Program) (w : World) : ∀ (xs ps : List (KK × Addr × Value)) (tr : List Trp), ps.map (fun x => (x.1, x.2.1)) = tr.map (fun t => (t.1, t.2.1)) → (storedAllH xs ps).map (fun x => (x.1, x.2.1)) = firstsA (xs.map fun x => (x.1, x.2.1)) tr
  | xs, [], [], _ => rfl
  | xs, [], _ :: _, e => by cases e
  | xs, _ :: _, [], e => by cases e
  | xs, p :: ps, t :: tr, e => by
    obtain ⟨e1, e2⟩ := List.cons.inj e
    obtain ⟨k, a, v⟩ := p
    obtain ⟨k', a', v'⟩ := t
    obtain ⟨rfl, rfl⟩ := Prod.mk.inj e1
    show (storedAllH (storedH xs k a v) ps).map _ = firstsA (if ((xs.map fun x => (x.1, x.2.1)).any fun x => decide (x.1 = k)) = true then _ else _) tr
    rw [stored_firsts P w _ ps tr e2]
    congr 1
    have mem : (atKey xs k).isSome = (xs.map fun x => (x.1, x.2.1)).any fun x => decide (x.1 = k) := by
      rw [List.any_map]
      unfold atKey
      rw [Option.isSome_map, Bool.eq_iff_iff, List.find?_isSome]
      simp
    unfold storedH
    rw [mem]
    cases z : (xs.map fun x => (x.1, x.2.1)).any fun x => decide (x.1 = k) with
    | true =>
      rw [if_pos rfl, if_pos rfl, List.map_map]
      refine List.map_congr_left fun x hx => ?_
      show ((putAt k v x).1, (putAt k v x).2.1) = _
      unfold putAt
      split <;> rfl
    | false =>
      rw [if_neg Bool.false_ne_true, if_neg Bool.false_ne_true, List.map_append]
      rfl
section
variable {X : Cx} {pins : List (Addr × Obj)} {σ : L2.St} {H : Hp} {s : Shared}
theorem items_of : ∀ {ks : KK} {us : List Value}, Vals (ks.map kV) us → ItemsAre (mixKind X.prog X.w) ks us
  | [], _, r => by
    cases r
    exact .nil
  | k :: ks, _, r => by
    rcases r with _ | ⟨r1, r⟩
    exact .cons (kV_is r1) (items_of r)
theorem trips_of (I : Inv X pins σ H s) : ∀ {ps : List Addr} {tr : List Trp}, Paired (fun p (t : Trp) => SqT X.K H p [.ref t.2.1, t.2.2] ∧ SqT X.K H t.2.1 (t.1.map kV)) ps tr →
    ∃ ts : List (KK × Addr × Value), ts.map (fun x => (x.1, x.2.1)) = tr.map (fun t => (t.1, t.2.1)) ∧ ts.length = ps.length ∧ (∀ x ∈ ts, (kTm X.prog X.w).is s.heap x.1 x.2.1) ∧
      ∀ (j : Nat) (x : KK × Addr × Value), ts[j]? = some x → ∃ b, ps[j]? = some b ∧ s.heap.IsTuple b #[.ref x.2.1, x.2.2]
  | _, _, .nil => ⟨[], rfl, rfl, (fun x hx => absurd hx List.not_mem_nil), (fun j x e => by rw [List.getElem?_nil] at e; cases e)⟩
  | _, _, .cons (a := p) (b := t) ⟨h1, h2⟩ r => by
    obtain ⟨ts, e1, e2, e3, e4⟩ := trips_of I r
    obtain ⟨its, rv, it, _⟩ := I.tuple h1
    obtain ⟨u, y, rfl, ru, ry⟩ := vals2 rv
    cases ru
    obtain ⟨it2, rv2, ⟨o, ho, hc, n, hd⟩, _⟩ := I.tuple h2
    refine ⟨(t.1, t.2.1, y) :: ts, by rw [List.map_cons, List.map_cons, e1], by rw [List.length_cons, List.length_cons, e2], fun x hx => ?_, fun j x e => ?_⟩
    · rcases List.mem_cons.mp hx with rfl | hx
      · exact ⟨o, it2.toArray, n, ho, hc, hd, by rw [List.toList_toArray]; exact items_of rv2⟩
      · exact e3 x hx
    · cases j with
      | zero =>
        cases e
        exact ⟨p, rfl, it⟩
      | succ j =>
        obtain ⟨b, f1, f2⟩ := e4 j x e
        exact ⟨b, f1, f2⟩
theorem call_dictT (hc : X.calm = true) (hu : X.A.units + 64 < cLine) : CallR X (.type "dict") (rDictT X.K) := by
  rintro pins s σ H xs us Q I r ⟨a, ps, tr, rfl, hq, hp, q⟩
  obtain ⟨u, rfl, rx⟩ := vals1 r
  cases rx
  obtain ⟨its, rv, ⟨o, n, ho, hcl, hdn, hdat⟩, hz⟩ := I.list hq
  have ei := refs_at rv
  subst ei
  rw [List.length_map] at hz
  obtain ⟨ts, e1, e2, e3, e4⟩ := trips_of I hp
  have r2 : X.A.in1.in1.units < cLine := by
    show X.A.units + 1 + 1 < cLine
    omega
  refine call_dict_pairsH (knd := kTm X.prog X.w) (ps := ts) (PairArg.list a (ps.map Value.ref).toArray (fun j => ps.getD j 0) (ts.map fun x => (.ref x.2.1, x.2.2))) (I.ok.hd hc) r2 ⟨⟨o, n, ho, hcl, hdn, hdat⟩, ?_, ?_⟩ ⟨?_, ?_⟩ ?_ ?_ fun h' tk hd' hk => ?_
  · simp [e2]
  · intro j k v e
    rw [List.getElem?_map] at e
    cases hj : ts[j]? with
    | none => rw [hj] at e; cases e
    | some x =>
      rw [hj] at e
      cases e
      obtain ⟨b, f1, f2⟩ := e4 j x hj
      refine ⟨by simp [f1], .inl ?_⟩
      show s.heap.IsTuple (ps.getD j 0) _
      rw [List.getD_eq_getElem?_getD, f1]
      exact f2
  · simp
  · intro i key v e
    have e : (ts.map fun x => (Value.ref x.2.1, x.2.2))[i]? = some (key, v) := e
    rw [List.getElem?_map] at e
    cases hj : ts[i]? with
    | none => rw [hj] at e; cases e
    | some x =>
      rw [hj] at e
      cases e
      exact ⟨x.1, x.2.1, rfl, rfl⟩
  · intro h' k x hx
    obtain ⟨o, items, n, ho, hc, hd, hi⟩ := e3 x hx
    exact ⟨o, items, n, k _ _ (Nat.ne_of_lt (Heap.lt_size ho)) (by simp) ho, hc, hd, hi⟩
  · rw [List.length_map, e2]
    exact hz
  · obtain ⟨o', es, ep, ho', hx', hd2, he', _, _⟩ := hd'
    have hm : (s.heap.objs.size == sysModules) = false := beq_eq_false_iff_ne.mpr (Nat.ne_of_gt I.big)
    have ef := stored_firsts X.prog X.w [] ts tr e1
    have hk' : ∀ b u, s.heap.get? b = some u → h'.get? b = some u := fun b u e => hk b u (by simp) e
    refine ⟨.ref s.heap.objs.size, upd H s.heap.objs.size (KeysO s.heap.objs.size ((firstsA [] tr).map (·.2))), I.laid (t' := tk) hk' (Nat.le_refl _) ?_, rfl, q _ (I.hok.fresh (Nat.le_refl _))⟩
    have ef : (storedAllH [] ts).map (fun x => (x.1, x.2.1)) = firstsA [] tr := ef
    have el : ((firstsA [] tr).map (·.2)).length ≤ sizeLine := by
      rw [← ef, List.length_map, List.length_map]
      have := storedAllH_length ts []
      rw [List.length_nil] at this
      omega
    have ek : es.toList.map (·.key) = ((firstsA [] tr).map (·.2)).map Value.ref := by
      rw [← ef, he', List.map_map, List.map_map, List.map_map]
      rfl
    unfold KeysO
    exact ⟨⟨hm, el, o', es, ep, ho', hx', hd2, ek⟩, ⟨o', ho'⟩, fun h1 h2 ⟨a1, a2, o, es, ep, q1, q2, q3, q4⟩ st => ⟨a1, a2, o, es, ep, st _ q1, q2, q3, q4⟩⟩
/-- list(of such a dict) -/
def rListKs : List V → Hp → VK → Prop := fun xs H Q => ∃ (p : Addr) (cs : List Addr), xs = [.ref p] ∧ H p = some (KeysO p cs) ∧ ∀ q, H q = none → Q (.ref q) (upd H q (.lst (cs.map V.ref)))
theorem call_listKs (hc : X.calm = true) : CallR X (.type "list") rListKs := by
  rintro pins s σ H xs us Q I r ⟨p, cs, rfl, hp, q⟩
  obtain ⟨u, rfl, rx⟩ := r.one
  cases rx
  obtain ⟨⟨hs, hz, o, es, ep, ho, hx, hdt, he⟩, _, _⟩ := (show ObjOk X.prog X.w H s.heap p (KeysO p cs) from I.hok p _ hp)
  have l1 : es.size = cs.length := by
    have := congrArg List.length he
    simpa using this
  refine PySem.W.kdl_call (kdl_raw hs hx hdt) (I.ok.hd hc) ho (by omega) fun h' tk acc' c' kp e it => ?_
  have ea : acc'.toList = cs.map Value.ref := by
    have hl : acc'.toList.length = cs.length := by rw [Array.length_toList, it.1]; exact l1
    apply List.ext_getElem (by rw [List.length_map]; exact hl)
    intro j h1 h2
    have ej := List.getElem?_eq_getElem h1
    rw [Array.getElem?_toList] at ej
    obtain ⟨en, hen, hv⟩ := it.2 j _ ej
    rw [hv]
    have e1 : (es.toList.map (·.key))[j]? = some en.key := by rw [List.getElem?_map, Array.getElem?_toList, hen]; rfl
    rw [he] at e1
    rw [List.getElem?_eq_getElem h2] at e1
    exact (Option.some.inj e1).symm
  refine ⟨.ref s.heap.objs.size, _, I.laid (t' := tk) (o := .lst (cs.map V.ref)) kp (Nat.le_refl _) ?_, rfl, q _ (I.hok.fresh (Nat.le_refl _))⟩
  exact ⟨by rw [List.length_map]; exact hz, acc'.toList, c', by rw [ea]; exact vals_refs _, by rw [Array.toArray_toList]; exact e⟩
end

section
open PySem.W
/-! ## the key x[0] * (y // x[1]) of a pair, by a lambda that holds y -/
section
variable {prog : Program} {w : World} {A : Around} {E : Value → Shared → Prop}
theorem sub_tup {s : Shared} {env : Env} {x : Str} {p1 p2 p3 : Pos} {k : Int} {jk : Nat} {m : Str → Option Value} {q : Addr} {its : List Value} {i : Nat} {u : Value} {Q : Value → Shared → Prop}
    (hk : env.scope.kind = .function) (hx : env.kindOf x = some .local) (hn : s.heap.Ns env.locals m) (hm : m x = some (.ref q)) (ht : IsTup s.heap q its.toArray) (h0 : 0 ≤ k) (h1 : k < 1000) (hj : seqIndex? k its.length = some i) (hu : its[i]? = some u)
    (hd : (x == ("__debug__" : Str)) = false) (h : ∀ tk, Q u { s with toks := tk }) : wpAny (model prog w) A (eval (.Subscript (.Name x p1) (.Constant (.int k) jk p2) p3) env) Q E s := by
  refine Subscript_ (wpAny_Name (wpAny_loadName_local hk hx hn hm ?_) hd)
  refine wpAny_Constant_int ?_
  have ht' : IsTup ({ s with toks := s.toks + 1 } : Shared).heap q its.toArray := ht
  refine subscriptTail_builtinR (x := u) ht'.typeIs slot_tuple_getitem.lookup (getItem_tuple (j := i) (Q := fun r s' => r = u ∧ Q r s') ht' (by omega) (by omega) (by simpa using hj) (by simpa using hu) ⟨rfl, h _⟩) rfl
theorem key_eval {s : Shared} {env : Env} {x y : Str} {p1 p2 p3 p4 p5 p6 p7 p8 p9 : Pos} {j0 j1 : Nat} {m : Str → Option Value} {q c : Addr} {n d wv : Int} {tn td tw : Tok} {Q : Value → Shared → Prop}
    (hk : env.scope.kind = .function) (hx : env.kindOf x = some .local) (hn : s.heap.Ns env.locals m) (hm : m x = some (.ref q)) (ht : IsTup s.heap q #[.int n tn, .int d td])
    (hy : env.kindOf y = some .free) (hc : env.cells.lookup y = some c) (hcell : s.heap.IsCell c (some (.int wv tw))) (hd0 : d ≠ 0) (hp : Builtin.divisionGoesByPylong wv d = false) (hmul : IntMulOk n (wv.fdiv d))
    (hd1 : (x == ("__debug__" : Str)) = false) (hd2 : (y == ("__debug__" : Str)) = false) (hd3 : (y == ("__classdict__" : Str)) = false) (h : ∀ t tk, Q (.int (n * wv.fdiv d) t) { s with toks := tk }) :
    wpAny (model prog w) A (eval (.BinOp (.Subscript (.Name x p1) (.Constant (.int 0) j0 p2) p3) .Mult (.BinOp (.Name y p4) .FloorDiv (.Subscript (.Name x p5) (.Constant (.int 1) j1 p6) p7) p8) p9) env) Q E s := by
  have ht2 : IsTup s.heap q [Value.int n tn, Value.int d td].toArray := ht
  refine wpAny_BinOp (sub_tup (i := 0) hk hx hn hm ht2 (by decide) (by decide) (show seqIndex? 0 2 = some 0 by decide) rfl hd1 fun tk1 => ?_)
  refine wpAny_BinOp (wpAny_Name (wpAny_loadName_free hk hy hc hcell ?_ hd3) hd2)
  refine sub_tup (i := 1) (s := { s with toks := tk1 }) hk hx hn hm ht2 (by decide) (by decide) (show seqIndex? 1 2 = some 1 by decide) rfl hd1 fun tk2 => ?_
  refine floordiv_int hd0 ?_ (.inl hp)
  exact mul_int (h _ _) hmul

open LamX in
/-- x(v) for such a lambda object -/
theorem key_call {A : Around} {s : Shared} {f c' : Addr} {q x y : Str} {params : Arguments} {scope : Scope} {cl : List (Str × Addr)} {pm ctv : Value} {p1 p2 p3 p4 p5 p6 p7 p8 p9 : Pos} {j0 j1 : Nat} {b c : Addr} {n d wv : Int} {tn td tw : Tok}
    (hroom : A.depth < recursionLimit) (hlim : s.heap.NoLimit)
    (ho : s.heap.get? f = some (PySem.W.kla_obj "<lambda>" q params (.BinOp (.Subscript (.Name x p1) (.Constant (.int 0) j0 p2) p3) .Mult (.BinOp (.Name y p4) .FloorDiv (.Subscript (.Name x p5) (.Constant (.int 1) j1 p6) p7) p8) p9) scope cl pm c' ctv))
    (hcd : s.heap.CodeRec (.ref c') q) (hbind : bindArgs (PySem.W.kla_fn "<lambda>" q params (.BinOp (.Subscript (.Name x p1) (.Constant (.int 0) j0 p2) p3) .Mult (.BinOp (.Name y p4) .FloorDiv (.Subscript (.Name x p5) (.Constant (.int 1) j1 p6) p7) p8) p9) scope cl pm (.ref c') ctv) ⟨[.ref b], []⟩ = pure [(x, .ref b)])
    (hk : scope.kind = .function) (hco : scope.isCoroutine = false) (hgen : scope.isGenerator = false) (hx : scope.names.lookup x = some .local) (hy : scope.names.lookup y = some .free) (hnc : ∀ z ∈ scope.names, z.2 ≠ .cell)
    (hcl : cl.lookup y = some c) (hcell : s.heap.IsCell c (some (.int wv tw))) (ht : IsTup s.heap b #[.int n tn, .int d td]) (hd0 : d ≠ 0) (hp : Builtin.divisionGoesByPylong wv d = false) (hmul : IntMulOk n (wv.fdiv d))
    (hd1 : (x == ("__debug__" : Str)) = false) (hd2 : (y == ("__debug__" : Str)) = false) (hd3 : (y == ("__classdict__" : Str)) = false) :
    wpAny (model prog w) A (call (.ref f) [.ref b]) (PySem.W.KeyPure (.int (n * wv.fdiv d)) s) (fun _ _ => False) s := by
  have rc : codeAny (model prog w) A (.call (.ref f) ⟨[.ref b], []⟩) (fun r s' => ∃ v, r = .ok (.ret v) ∧ PySem.W.KeyPure (.int (n * wv.fdiv d)) s v s') s := by
    refine PySem.W.kla_callFunE hroom ho rfl hco hgen rfl hcd ?_
    rw [hbind]
    refine wpAny_pure (wpAny_newFunctionEnv hnc (fun z hz => by rw [List.mem_singleton.mp hz]; exact hx) (fun h₁ hns hsb => ⟨hlim.fresh _ hsb, ?_⟩) hk)
    show codeAny _ _ (.expr _ (PySem.W.envX q scope s.heap.objs.size f (.ref c') cl)) _ _
    have kp : ∀ b o, s.heap.get? b = some o → h₁.get? b = some o := fun b o e => hsb.extBut b o (Nat.ne_of_lt (Heap.lt_size e)) (Heap.get?_push_of_some _ e)
    obtain ⟨oc, e1, e2⟩ := hcell
    obtain ⟨ot, u1, u2, u3, u4⟩ := ht
    refine PySem.W.kla_codeExpr (key_eval (q := b) (c := c) (tn := tn) (td := td) (tw := tw) hk hx hns (by simp) ⟨ot, kp _ _ u1, u2, u3, u4⟩ hy hcl ⟨oc, kp _ _ e1, e2⟩ hd0 hp hmul hd1 hd2 hd3 fun t tk => ?_)
    exact ⟨_, rfl, h₁, _, rfl, kp, .int _ _⟩
  refine wpAny_call (codeAny_mono rc fun r s' hq => ?_)
  obtain ⟨v, rfl, h⟩ := hq
  exact h
end

/-! ## sorted(e, key=such a lambda) -/
/-- a fraction's object, its numbers -/
abbrev Ftr : Type := Addr × Int × Int
def kyQ (W : Int) (b : Ftr) : Int := b.2.1 * W.fdiv b.2.2
def postK (K : Fg) (P : Addr) (q : Str) (i : Nat) (σ : L2.St) (Q : VK) : VK := fun v H1 => ∃ (a : Addr) (bs : List Ftr) (W : Int), v = .ref a ∧ σ[i]? = some (some (.int W)) ∧ SqL K H1 a (bs.map fun b => V.ref b.1) ∧
  (∀ b ∈ bs, SqT K H1 b.1 [.int b.2.1, .int b.2.2] ∧ CDivX W b.2.2 ∧ CMulW b.2.1 (W.fdiv b.2.2)) ∧ LamX.Tabs [(P, q)] H1 ∧
  ∀ H2 p, LamX.ExtN H1 H2 → LamX.Tabs [(P, q)] H2 → H2 p = none → Q (.ref p) (upd H2 p (.lst ((bs.mergeSort fun a b => decide (kyQ W a ≤ kyQ W b)).map fun b => V.ref b.1)))
def tSortK (K : Fg) (P : Addr) (q : Str) (i : Nat) (te : TE) : TE := fun σ H Q => te σ H (postK K P q i σ Q)
theorem SqT.extN {K : Fg} {H H' : Hp} {a : Addr} {xs : List V} (t : LamX.ExtN H H') (h : SqT K H a xs) : SqT K H' a xs :=
  h.elim (fun z => .inl (z.elim (fun e => .inl (t _ _ e fun _ q => by cases q)) fun ⟨o, e⟩ => .inr ⟨o, t _ _ e fun _ q => by cases q⟩)) .inr
theorem SqL.extN {K : Fg} {H H' : Hp} {a : Addr} {xs : List V} (t : LamX.ExtN H H') (h : SqL K H a xs) : SqL K H' a xs :=
  h.elim (fun z => .inl (z.elim (fun e => .inl (t _ _ e fun _ q => by cases q)) fun ⟨o, e⟩ => .inr ⟨o, t _ _ e fun _ q => by cases q⟩)) .inr
structure KeyS (sc scope : Scope) (x y : Str) : Prop where
  kind : scope.kind = .function
  co : scope.isCoroutine = false
  gen : scope.isGenerator = false
  own : ∀ z ∈ scope.names, z.2 ≠ .cell
  hx : scope.names.lookup x = some .local
  hy : scope.names.lookup y = some .free
  free : ∀ z ∈ scope.names, z.2 = .free → sc.names.lookup z.1 = some .cell ∨ sc.names.lookup z.1 = some .free
  cy : sc.names.lookup y = some .cell
def keySB (sc scope : Scope) (x y : Str) : Bool :=
  decide (scope.kind = .function) && !scope.isCoroutine && !scope.isGenerator && (scope.names.all fun z => !decide (z.2 = .cell) && (!decide (z.2 = .free) || decide (sc.names.lookup z.1 = some .cell) || decide (sc.names.lookup z.1 = some .free))) &&
    decide (scope.names.lookup x = some .local) && decide (scope.names.lookup y = some .free) && decide (sc.names.lookup y = some .cell)
theorem keyS_by {sc scope : Scope} {x y : Str} (h : keySB sc scope x y = true) : KeyS sc scope x y := by
  unfold keySB at h
  simp only [Bool.and_eq_true, Bool.or_eq_true, Bool.not_eq_true', decide_eq_true_eq, decide_eq_false_iff_not, List.all_eq_true] at h
  obtain ⟨⟨⟨⟨⟨⟨h1, h2⟩, h3⟩, h4⟩, h5⟩, h6⟩, h7⟩ := h
  refine ⟨h1, h2, h3, fun z hz => (h4 z hz).1, h5, h6, fun z hz e => ?_, h7⟩
  rcases (h4 z hz).2 with (q | q) | q
  · exact absurd e q
  · exact .inl q
  · exact .inr q
theorem each_map {α β : Type} {R : α → β → Prop} : ∀ {l : List β} {f : β → α}, (∀ b ∈ l, R (f b) b) → EachIs R (l.map f) l
  | [], _, _ => .nil
  | b :: l, f, h => .cons (h b (.head _)) (each_map fun c hc => h c (.tail _ hc))
theorem each_refs {R : Value → Ftr → Prop} : ∀ {out : List Value} {l : List Ftr}, EachIs R out l → (∀ v b, R v b → v = .ref b.1) → out = l.map fun b => Value.ref b.1
  | _, _, .nil, _ => rfl
  | _, _, .cons r1 r, h => by rw [List.map_cons, ← h _ _ r1, ← each_refs r h]
theorem codeRec_keep {h h' : Heap} {v : Value} {q : Str} (x : h.CodeRec v q) (k : ∀ b o, h.get? b = some o → h'.get? b = some o) : h'.CodeRec v q := by
  obtain ⟨c, oc, vs, tq, hc, hoc, hdc, hq⟩ := x
  exact ⟨c, oc, vs, tq, hc, k _ _ hoc, hdc, hq⟩
theorem isTup_keep {h h' : Heap} {a : Addr} {us : Array Value} (x : IsTup h a us) (k : ∀ b o, h.get? b = some o → h'.get? b = some o) : IsTup h' a us := by
  obtain ⟨ot, u1, u2, u3, u4⟩ := x
  exact ⟨ot, k _ _ u1, u2, u3, u4⟩
theorem pe_sortK {X : Cx} {e : Expr} {te : TE} {c P : Addr} {q x y : Str} {i k : Nat} {params : Arguments} {scope : Scope} {p lpos kpos pos p1 p2 p3 p4 p5 p6 p7 p8 p9 : Pos} {j0 j1 : Nat}
    (hpa : PA X [e] (tCons te tNil)) (hg : Gl X "sorted") (hm : X.mg "sorted" = none) (TB : LamX.TabB X.base X.mg c P) (hcode : X.env.code = .ref c) (hq : X.env.qual ++ "<lambda>" = q) (hr : Room k X.A) (hN : X.N[i]? = some y) (S : KeyS X.env.scope scope x y) (hdef : defaultsOf params X.env = ([], []))
    (hbind : ∀ (q : Str) (cl : List (Str × Addr)) (pm cv ctv : Value) (v : Value), bindArgs (PySem.W.kla_fn "<lambda>" q params (.BinOp (.Subscript (.Name x p1) (.Constant (.int 0) j0 p2) p3) .Mult (.BinOp (.Name y p4) .FloorDiv (.Subscript (.Name x p5) (.Constant (.int 1) j1 p6) p7) p8) p9) scope cl pm cv ctv) ⟨[v], []⟩ = pure [(x, v)])
    (hd1 : (x == ("__debug__" : Str)) = false := by decide) (hd2 : (y == ("__debug__" : Str)) = false := by decide) (hd3 : (y == ("__classdict__" : Str)) = false := by decide)
    (he' : backTo pos (starEach [e] X.env) = (false, eval e X.env) :: backTo pos (starEach [] X.env) := by rfl) (hpl : (backTo pos (starEach [e] X.env)).any (·.1) = false := by rfl) :
    PE X (.Call (.Name "sorted" p) [e] [⟨some "key", .Lambda params (.BinOp (.Subscript (.Name x p1) (.Constant (.int 0) j0 p2) p3) .Mult (.BinOp (.Name y p4) .FloorDiv (.Subscript (.Name x p5) (.Constant (.int 1) j1 p6) p7) p8) p9) scope lpos, kpos⟩] pos) (tSortK X.K P q i te) := by
  subst hq
  refine ⟨fun pins s σ H Q I h => ?_⟩
  have hfree : ∀ z ∈ scope.names, z.2 = .free → ∃ c, X.env.cells.lookup z.1 = some c := fun z hz e => I.ok.has _ (S.free z hz e)
  refine wpAny_Call_Name_kw (ld_blt (u := .builtin "sorted") I hg hm rfl ?_ (by decide) (by decide))
  refine PyProof.Rows.callWith_kw (thn (hpa.run pos pins s σ H (fun vs H1 => match vs with | [v] => postK X.K P (X.env.qual ++ "<lambda>") i σ Q v H1 | _ => False) I h) fun us s1 ⟨vs, H1, I1, rs, q1⟩ => ?_) he' hpl (by rfl) (by rfl)
  match vs, rs, q1 with
  | [v], rs, q1 =>
  obtain ⟨u, rfl, r1⟩ := vals1 rs
  obtain ⟨a, bs, W, rfl, hW, hl, hb, hT, q1⟩ := q1
  obtain rfl : u = Value.ref a := r1
  show wpAny _ _ (evalAll [(do let v ← eval _ X.env; standAt pos; pure v)]) _ _ s1
  refine wpAny_evalAll_cons (wpAny_bind (LamX.lam_make2 (T := [(P, X.env.qual ++ "<lambda>")]) I1 TB hcode (by simp) (fun p hp _ => by rw [List.mem_singleton.mp hp]) hT hdef hfree fun f c' pm ctv H2 s2 I2 eN T2 hf hfn hfr hco => wpAny_bind (wpAny_standAt (wpAny_pure (wpAny_evalAll_nil ?_)))))
  show wpAny _ _ (call (.builtin "sorted") [.ref a] [(Str.ofString "key", .ref f)]) _ _ s2
  obtain ⟨its, rv, hpl', hz⟩ := I2.list (SqL.extN eN hl)
  have ei : its = bs.map fun b => Value.ref b.1 := by
    have e0 : (bs.map fun b => V.ref b.1) = (bs.map (·.1)).map V.ref := by rw [List.map_map]; rfl
    rw [e0] at rv
    rw [refs_at rv, List.map_map]
    rfl
  subst ei
  rw [List.length_map] at hz
  obtain ⟨m, hn, hlk⟩ := I2.loc
  obtain ⟨w1, rw1, lk⟩ := hlk i y _ hN hW (.inr (.inl S.cy))
  obtain ⟨tw, rfl⟩ : ∃ t, w1 = Value.int W t := rw1
  obtain ⟨cy, hcy, hcell⟩ : ∃ c, X.env.cells.lookup y = some c ∧ s2.heap.IsCell c (some (.int W tw)) := by
    rcases lk with ⟨k1, _⟩ | ⟨_, c, e1, e2⟩
    · rw [show X.env.kindOf y = some .cell from S.cy] at k1
      cases k1
    · exact ⟨c, e1, e2⟩
  have hcl : (cloFrom X.env.cells scope.names []).lookup y = some cy := by
    obtain ⟨c2, h2⟩ := mem_lookup (cloFrom_has (cells := X.env.cells) (acc := []) (PySem.mem_of_lookup S.hy))
    rcases cloFrom_mem (PySem.mem_of_lookup h2) with hm | ⟨h1, h3⟩
    · cases hm
    · rw [h2, h3, hcy]
      rfl
  have hcode2 : s2.heap.CodeRec (.ref c') (X.env.qual ++ "<lambda>") := by
    obtain ⟨⟨oc, vs, t, e1, e2, e3⟩, _, _⟩ := I2.hok c' _ hco
    exact ⟨c', oc, vs, t, rfl, e1, e2, e3⟩
  have un := hr.un
  refine PySem.W.sorted_key_data (b := false) (bs := bs) (R := fun v b => v = .ref b.1 ∧ ∃ tn td, IsTup s2.heap b.1 #[.int b.2.1 tn, .int b.2.2 td]) (fun b => .int (kyQ W b)) hpl'.isList (each_map fun b hb' => ⟨rfl, ?_⟩) (AllAlike.of fun _ _ => by simp [alike]) (Sortable.others fun _ => ⟨nofun, nofun⟩) hz (fun b _ => ?_)
    (ksk_s1 _ _) (fun _ => ksk_l1 _ _) (fun _ => ksk_t1 _ _) (fun v b ⟨ev, tn, td, ht⟩ hb' h tk kp => ?_) fun out c2 h' tk kp _ hD _ eo => ?_
  · obtain ⟨its, rv, it, _⟩ := I2.tuple (SqT.extN eN (hb b hb').1)
    obtain ⟨u1, u2, rfl, e1, e2⟩ := vals2 rv
    obtain ⟨tn, rfl⟩ : ∃ t, u1 = Value.int b.2.1 t := e1
    obtain ⟨td, rfl⟩ : ∃ t, u2 = Value.int b.2.2 t := e2
    exact ⟨tn, td, it⟩
  · show X.A.units + 2 + PyData.depth (.int _) < cLine
    have : PyData.depth (.int (kyQ W b)) = 0 := by simp [PyData.depth]
    omega
  · rw [ev]
    obtain ⟨_, cd, cm⟩ := hb b hb'
    have hdp : X.A.in1.in1.depth < recursionLimit := hr.depth
    exact key_call (s := { s2 with heap := h, toks := tk }) (tw := tw) (tn := tn) (td := td) hdp ((I2.nolimit).keeps kp) (kp _ _ hf) (codeRec_keep hcode2 kp) (hbind _ _ _ _ _ _) S.kind S.co S.gen S.hx S.hy S.own hcl (hcell.keeps kp) (isTup_keep ht kp) cd.1 (PyProof.noPylong_of_log2 cd.2) cm.ok hd1 hd2 hd3
  · rw [PySem.W.dataLe_int] at eo
    have eo2 := each_refs eo fun _ _ z => z.1
    refine ⟨.ref (s2.heap.objs.size + 1), _, I2.laid (t' := tk) (o := .lst ((bs.mergeSort fun a b => decide (kyQ W a ≤ kyQ W b)).map fun b => V.ref b.1)) kp (Nat.le_succ _) ?_, rfl, q1 H2 _ eN T2 (I2.hok.fresh (Nat.le_succ _))⟩
    refine ⟨by rw [List.length_map, List.length_mergeSort]; exact hz, out, c2, ?_, hD⟩
    rw [eo2]
    have e0 : ∀ l : List Ftr, (l.map fun b => V.ref b.1) = (l.map (·.1)).map V.ref := fun l => by rw [List.map_map]; rfl
    have e1 : ∀ l : List Ftr, (l.map fun b => Value.ref b.1) = (l.map (·.1)).map Value.ref := fun l => by rw [List.map_map]; rfl
    rw [e0, e1]
    exact vals_refs _

/-! ## what lives on: all but M and the tables -/
def Lives (M : Ms) (H H' : Hp) : Prop := ∀ b o, H b = some o → ¬ M b → (∀ ps, o ≠ .tbl ps) → H' b = some o
theorem Lives.refl {M : Ms} (H : Hp) : Lives M H H := fun _ _ e _ _ => e
theorem Lives.trans {M : Ms} {H H1 H2 : Hp} (a : Lives M H H1) (b : Lives M H1 H2) : Lives M H H2 := fun c o e n t => b c o (a c o e n t) n t
theorem Lives.of_same {M : Ms} {H H' : Hp} (s : Same H H') : Lives M H H' := fun b o e _ _ => s b o e
theorem Lives.of_ext {M : Ms} {H H' : Hp} (s : LamX.ExtN H H') : Lives M H H' := fun b o e _ t => s b o e t
theorem Lives.of_but {M : Ms} {H H' : Hp} {d l : Addr} (md : M d) (ml : M l) (s : But d l H H') : Lives M H H' := fun b o e n _ => s.kp b o e (fun z => n (z ▸ md)) (fun z => n (z ▸ ml))
theorem ExtN.of_same {H H' : Hp} (s : Same H H') : LamX.ExtN H H' := LamX.ExtN.of s
class MonoV {α : Type} (R : Rp α) : Prop where
  mono : ∀ {K : Fg} {M : Ms} {H H' : Hp} {v : V} {a : α}, Lives M H H' → R K M H v a → R K M H' v a
theorem TupM.lives {K : Fg} {M : Ms} {H H' : Hp} {a : Addr} {xs : List V} (t : Lives M H H') (h : TupM K M H a xs) : TupM K M H' a xs :=
  h.elim (fun z => .inl ⟨z.1, t _ _ z.2 z.1 fun _ q => by cases q⟩) .inr
theorem LstM.lives {K : Fg} {M : Ms} {H H' : Hp} {a : Addr} {xs : List V} (t : Lives M H H') (h : LstM K M H a xs) : LstM K M H' a xs :=
  h.elim (fun z => .inl ⟨z.1, z.2.elim (fun e => .inl (t _ _ e z.1 fun _ q => by cases q)) fun ⟨o, e⟩ => .inr ⟨o, t _ _ e z.1 fun _ q => by cases q⟩⟩) .inr
instance : MonoV rInt := ⟨fun _ h => h⟩
instance : MonoV rBl := ⟨fun _ h => h⟩
instance : MonoV rFr := ⟨fun t ⟨p, e, h⟩ => ⟨p, e, h.lives t⟩⟩
instance {α β : Type} (A : Rp α) (B : Rp β) [MonoV A] [MonoV B] : MonoV (rT2 A B) := ⟨fun t ⟨p, x, y, e, h, a, b⟩ => ⟨p, x, y, e, h.lives t, MonoV.mono t a, MonoV.mono t b⟩⟩
instance {α : Type} (A : Rp α) [MonoV A] : MonoV (rL A) := ⟨fun t ⟨p, vs, e, h, a⟩ => ⟨p, vs, e, h.lives t, Prd.monoR (fun _ _ z => MonoV.mono t z) a⟩⟩
instance {α : Type} (A : Rp α) [MonoV A] : MonoV (rS A) := ⟨fun t ⟨p, vs, e, n, h, a⟩ => ⟨p, vs, e, n, t _ _ h n fun _ q => (by cases q), Prd.monoR (fun _ _ z => MonoV.mono t z) a⟩⟩
instance : MonoV rLg := ⟨fun _ h => h⟩
theorem Rp.lives {α : Type} {R : Rp α} [i : MonoV R] {K : Fg} {M : Ms} {H H' : Hp} {v : V} {a : α} (s : Lives M H H') (h : R K M H v a) : R K M H' v a := i.mono s h
theorem Rp.lives2 {α : Type} {R : Rp α} {K : Fg} {M : Ms} {H H' : Hp} {v : V} {a : α} (s : Lives M H H') (h : R K M H v a) (i : MonoV R) : R K M H' v a := i.mono s h
/-- what may change is taken, and no table -/
def OwnN (M : Ms) (H : Hp) : Prop := ∀ b, M b → ∃ o, H b = some o ∧ ∀ ps, o ≠ .tbl ps
theorem OwnN.own {M : Ms} {H : Hp} (h : OwnN M H) : Own M H := fun b m => by
  obtain ⟨o, e, _⟩ := h b m
  rw [e]
  exact Option.some_ne_none o
theorem OwnN.same {M : Ms} {H H' : Hp} (s : Same H H') (h : OwnN M H) : OwnN M H' := fun b m => by
  obtain ⟨o, e, n⟩ := h b m
  exact ⟨o, s _ _ e, n⟩
theorem OwnN.ext {M : Ms} {H H' : Hp} (s : LamX.ExtN H H') (h : OwnN M H) : OwnN M H' := fun b m => by
  obtain ⟨o, e, n⟩ := h b m
  exact ⟨o, s _ _ e n, n⟩
theorem OwnN.but {M : Ms} {H H' : Hp} {d : Addr} {l : LI} {N : Nat} (s : But d l.1 H H') (D : StAt H' d l N) (h : OwnN M H) : OwnN M H' := fun b m => by
  obtain ⟨o, e, n⟩ := h b m
  obtain ⟨xs, ls, x, y, h1, h2, _⟩ := D.ex
  by_cases z : b = d
  · rw [z]; exact ⟨_, h1, fun _ q => by cases q⟩
  by_cases z2 : b = l.1
  · rw [z2]; exact ⟨_, h2, fun _ q => by cases q⟩
  exact ⟨o, s.kp _ _ e z z2, n⟩
theorem StAt.tabs {T : List (Addr × Str)} {H H' : Hp} {d : Addr} {l : LI} {N : Nat} (h : StAt H d l N) (b : But d l.1 H H') (t : LamX.Tabs T H) : LamX.Tabs T H' := fun p hp => by
  obtain ⟨xs, ls, x, y, h1, h2, h3, r⟩ := h.ex
  obtain ⟨ps, e1, e2, e3⟩ := t p hp
  refine ⟨ps, b.kp _ _ e1 (fun z => by rw [z, h1] at e1; cases e1) (fun z => by rw [z, h2] at e1; cases e1), e2, fun pos cv hc => ?_⟩
  obtain ⟨c, f1, f2⟩ := e3 pos cv hc
  refine ⟨c, f1, b.kp _ _ f2 (fun z => ?_) (fun z => ?_)⟩
  · rw [z, h1] at f2
    unfold LamX.CodeO at f2
    cases f2
  · rw [z, h2] at f2
    unfold LamX.CodeO at f2
    cases f2
theorem Tabs.same {T : List (Addr × Str)} {H H' : Hp} (s : Same H H') (t : LamX.Tabs T H) : LamX.Tabs T H' := t.ext s
/-! ## times in order, each once -/
/-- the first of each -/
def frsQ (acc : List Rat) : List Rat → List Rat
  | [] => acc
  | t :: r => frsQ (if t ∈ acc then acc else acc ++ [t]) r
def srtQ (ts : List Rat) : List Rat := (frsQ [] ts).mergeSort fun a b => decide (a ≤ b)
theorem frs_mem : ∀ (ts acc : List Rat) (t : Rat), t ∈ frsQ acc ts ↔ t ∈ acc ∨ t ∈ ts
  | [], acc, t => by simp [frsQ]
  | a :: r, acc, t => by
    unfold frsQ
    rw [frs_mem r]
    by_cases h : a ∈ acc
    · rw [if_pos h, List.mem_cons]
      constructor
      · rintro (q | q)
        · exact .inl q
        · exact .inr (.inr q)
      · rintro (q | rfl | q)
        · exact .inl q
        · exact .inl h
        · exact .inr q
    · rw [if_neg h, List.mem_append, List.mem_singleton, List.mem_cons]
      constructor
      · rintro ((q | q) | q)
        · exact .inl q
        · exact .inr (.inl q)
        · exact .inr (.inr q)
      · rintro (q | q | q)
        · exact .inl (.inl q)
        · exact .inl (.inr q)
        · exact .inr q
theorem frs_nodup : ∀ (ts acc : List Rat), acc.Nodup → (frsQ acc ts).Nodup
  | [], acc, h => h
  | a :: r, acc, h => by
    unfold frsQ
    refine frs_nodup r _ ?_
    by_cases z : a ∈ acc
    · rw [if_pos z]; exact h
    · rw [if_neg z]
      exact List.nodup_append.mpr ⟨h, by simp, fun x hx y hy e => z (by rw [List.mem_singleton.mp hy] at e; rw [← e]; exact hx)⟩
theorem frs_len : ∀ (ts acc : List Rat), (frsQ acc ts).length ≤ acc.length + ts.length
  | [], acc => Nat.le_refl _
  | a :: r, acc => by
    unfold frsQ
    refine Nat.le_trans (frs_len r _) ?_
    by_cases z : a ∈ acc
    · rw [if_pos z, List.length_cons]; omega
    · rw [if_neg z, List.length_append, List.length_cons, List.length_cons, List.length_nil]; omega
theorem le_trans_b : ∀ (a b c : Rat), decide (a ≤ b) = true → decide (b ≤ c) = true → decide (a ≤ c) = true := fun a b c h1 h2 => by
  simp only [decide_eq_true_eq] at *
  exact Rat.le_trans h1 h2
theorem le_total_b : ∀ (a b : Rat), (decide (a ≤ b) || decide (b ≤ a)) = true := fun a b => by
  simp only [Bool.or_eq_true, decide_eq_true_eq]
  exact Rat.le_total
theorem srt_mem {ts : List Rat} {t : Rat} : t ∈ srtQ ts ↔ t ∈ ts := by
  unfold srtQ
  rw [List.mem_mergeSort, frs_mem]
  simp
theorem srt_asc (ts : List Rat) : (srtQ ts).Pairwise (· < ·) := by
  have h1 : (srtQ ts).Pairwise fun a b => decide (a ≤ b) = true := List.pairwise_mergeSort le_trans_b le_total_b _
  have h2 : (srtQ ts).Nodup := (List.mergeSort_perm _ _).nodup_iff.mpr (frs_nodup ts [] List.nodup_nil)
  have h3 : (srtQ ts).Pairwise (· ≠ ·) := h2
  refine (h1.and h3).imp fun {a b} ⟨p, q⟩ => ?_
  have p : a ≤ b := of_decide_eq_true p
  exact Rat.lt_of_le_of_ne p q
theorem srt_len (ts : List Rat) : (srtQ ts).length ≤ ts.length := by
  unfold srtQ
  rw [List.length_mergeSort]
  have := frs_len ts []
  simpa using this

/-! ## dict of pairs, list of it, sorted: as fractions -/
theorem hu64 {k : Nat} {A : Around} (r : Room k A) : A.units + 64 < cLine := by
  have := r.un
  omega
theorem paired_of {α β γ : Type} {R : α → β → Prop} {f : γ → α} {g : γ → β} : ∀ {l : List γ}, (∀ z ∈ l, R (f z) (g z)) → Paired R (l.map f) (l.map g)
  | [], _ => .nil
  | z :: l, h => .cons (h z (.head _)) (paired_of fun y hy => h y (.tail _ hy))
def kF (t : Rat) : KK := [.inl t.num, .inl (t.den : Int)]
theorem kF_inj {a b : Rat} (h : kF a = kF b) : a = b := by
  unfold kF at h
  injection h with h1 h2
  injection h2 with h3 h4
  injection h1 with h1
  injection h3 with h3
  exact Rat.ext h1 (by exact_mod_cast h3)
theorem firsts_keys : ∀ (tr : List Trp) (ts : List Rat) (acc : List (KK × Addr)) (ac : List Rat), tr.map (·.1) = ts.map kF → acc.map (·.1) = ac.map kF → (firstsA acc tr).map (·.1) = (frsQ ac ts).map kF
  | [], [], _, _, _, e => e
  | [], _ :: _, _, _, e, _ => by cases e
  | _ :: _, [], _, _, e, _ => by cases e
  | t :: tr, u :: ts, acc, ac, e, e2 => by
    rw [List.map_cons, List.map_cons] at e
    obtain ⟨e3, e4⟩ := List.cons.inj e
    unfold firstsA frsQ
    refine firsts_keys tr ts _ _ e4 ?_
    have hm : (acc.any fun x => decide (x.1 = t.1)) = true ↔ u ∈ ac := by
      rw [List.any_eq_true]
      constructor
      · rintro ⟨x, hx, hd⟩
        have h1 : x.1 ∈ ac.map kF := by rw [← e2]; exact List.mem_map_of_mem hx
        rw [of_decide_eq_true hd, e3] at h1
        obtain ⟨y, hy, ey⟩ := List.mem_map.mp h1
        rw [← kF_inj ey]; exact hy
      · intro hu
        have h1 : kF u ∈ acc.map (·.1) := by rw [e2]; exact List.mem_map_of_mem hu
        obtain ⟨x, hx, ex⟩ := List.mem_map.mp h1
        exact ⟨x, hx, decide_eq_true (by rw [ex, e3])⟩
    by_cases hu : u ∈ ac
    · rw [if_pos (hm.mpr hu), if_pos hu]; exact e2
    · rw [if_neg (fun z => hu (hm.mp z)), if_neg hu, List.map_append, List.map_append, e2, List.map_cons, List.map_cons, e3]
      rfl
theorem firsts_from : ∀ (tr : List Trp) (acc : List (KK × Addr)) (x : KK × Addr), x ∈ firstsA acc tr → x ∈ acc ∨ ∃ t ∈ tr, x = (t.1, t.2.1)
  | [], _, _, h => .inl h
  | t :: tr, acc, x, h => by
    unfold firstsA at h
    rcases firsts_from tr _ x h with z | ⟨u, hu, e⟩
    · split at z
      · exact .inl z
      · rcases List.mem_append.mp z with q | q
        · exact .inl q
        · exact .inr ⟨t, .head _, List.mem_singleton.mp q⟩
    · exact .inr ⟨u, .tail _ hu, e⟩
section
variable {K : Fg} {M : Ms} {H : Hp}
theorem trips_fr : ∀ {vs : List V} {ts : List Rat}, Paired (rT2 rFr rBl K M H) vs (ts.map fun t => (t, true)) →
    ∃ (ps : List Addr) (tr : List Trp), vs = ps.map V.ref ∧ Paired (fun p (t : Trp) => SqT K H p [.ref t.2.1, t.2.2] ∧ SqT K H t.2.1 (t.1.map kV)) ps tr ∧ tr.map (·.1) = ts.map kF ∧ ∀ t ∈ tr, TupM K M H t.2.1 (t.1.map kV)
  | [], [], _ => ⟨[], [], rfl, .nil, rfl, fun t h => absurd h List.not_mem_nil⟩
  | _ :: _, [], h => by cases h
  | [], _ :: _, h => by cases h
  | v :: vs, u :: ts, h => by
    rw [List.map_cons] at h
    rcases h with _ | ⟨h1, h2⟩
    obtain ⟨ps, tr, rfl, e2, e3, e4⟩ := trips_fr h2
    obtain ⟨p, x, y, rfl, hp, ⟨a, rfl, ha⟩, hy⟩ := h1
    cases hy
    refine ⟨p :: ps, (kF u, a, .bl true) :: tr, rfl, .cons ⟨hp.sq, ha.sq⟩ e2, by rw [List.map_cons, List.map_cons, e3], fun t ht => ?_⟩
    rcases List.mem_cons.mp ht with rfl | ht
    · exact ha
    · exact e4 t ht
theorem s_dictQ {x : V} {ts : List Rat} {Q : VK} (h : rL (rT2 rFr rBl) K M H x (ts.map fun t => (t, true)))
    (k : ∀ (p : Addr) (zs : List (Addr × Rat)), H p = none → zs.map (·.2) = frsQ [] ts → (∀ z ∈ zs, TupM K M H z.1 [.int z.2.num, .int z.2.den]) → Q (.ref p) (upd H p (KeysO p (zs.map (·.1))))) : rDictT K [x] H Q := by
  obtain ⟨a, vs, rfl, hl, hp⟩ := h
  obtain ⟨ps, tr, rfl, e2, e3, e4⟩ := trips_fr hp
  refine ⟨a, ps, tr, rfl, hl.sq, e2, fun p hn => ?_⟩
  have ek := firsts_keys tr ts [] [] e3 rfl
  have ef := firsts_from tr []
  generalize firstsA [] tr = Z at *
  have el : Z.length = (frsQ [] ts).length := by
    have := congrArg List.length ek
    simpa using this
  have h1 : ((Z.map (·.2)).zip (frsQ [] ts)).map (·.1) = Z.map (·.2) := List.map_fst_zip (by rw [List.length_map, el]; exact Nat.le_refl _)
  have h2 : ((Z.map (·.2)).zip (frsQ [] ts)).map (·.2) = frsQ [] ts := List.map_snd_zip (by rw [List.length_map, el]; exact Nat.le_refl _)
  rw [← h1]
  refine k p _ hn h2 fun z hz => ?_
  obtain ⟨j, hj⟩ := List.getElem?_of_mem hz
  rw [List.getElem?_zip_eq_some] at hj
  obtain ⟨j1, j2⟩ := hj
  rw [List.getElem?_map] at j1
  cases hZ : Z[j]? with
  | none => rw [hZ] at j1; cases j1
  | some w =>
    rw [hZ] at j1
    have j3 : w.2 = z.1 := Option.some.inj j1
    have j4 : w.1 = kF z.2 := by
      have : (Z.map (·.1))[j]? = ((frsQ [] ts).map kF)[j]? := by rw [ek]
      rw [List.getElem?_map, List.getElem?_map, hZ, j2] at this
      exact Option.some.inj this
    rcases ef w (List.mem_of_getElem? hZ) with q | ⟨t, ht, e⟩
    · exact absurd q List.not_mem_nil
    · have := e4 t ht
      have e5 : t.1 = w.1 := by rw [e]
      have e6 : t.2.1 = w.2 := by rw [e]
      rw [e5, e6, j3, j4] at this
      exact this
theorem s_listKs {p : Addr} {cs : List Addr} {Q : VK} (k : ∀ q, upd H p (KeysO p cs) q = none → Q (.ref q) (upd (upd H p (KeysO p cs)) q (.lst (cs.map V.ref)))) : rListKs [.ref p] (upd H p (KeysO p cs)) Q := ⟨p, cs, rfl, upd_same, k⟩
theorem q_num_eq (a : Rat) : (a.num : Rat) = a * ((a.den : Int) : Rat) := by
  have h : (a.num : Rat) / ((a.den : Int) : Rat) = a := (q_eq a).symm
  have d0 : ((a.den : Int) : Rat) ≠ 0 := by have := q_den_pos a; exact_mod_cast (show (a.den : Int) ≠ 0 by omega)
  generalize ((a.den : Int) : Rat) = d at *
  rw [← h]
  grind
theorem ky_eq {W : Int} {a : Rat} {c : Addr} (h : (a.den : Int) ∣ W) : ((kyQ W (c, a.num, (a.den : Int)) : Int) : Rat) = a * (W : Rat) := by
  obtain ⟨k, rfl⟩ := h
  have d0 := q_den_pos a
  unfold kyQ
  show ((a.num * ((a.den : Int) * k).fdiv (a.den : Int) : Int) : Rat) = _
  have e1 : ((a.den : Int) * k).fdiv (a.den : Int) = k := by
    rw [Int.fdiv_eq_ediv_of_nonneg _ (by omega)]
    exact Int.mul_ediv_cancel_left _ (by omega)
  rw [e1, Rat.intCast_mul, Rat.intCast_mul]
  have e2 : (a.num : Rat) = a * ((a.den : Int) : Rat) := q_num_eq a
  rw [e2, Rat.mul_assoc]
theorem ky_le {W : Int} {a b : Rat} {c e : Addr} (hW : 0 < W) (ha : (a.den : Int) ∣ W) (hb : (b.den : Int) ∣ W) : decide (kyQ W (c, a.num, (a.den : Int)) ≤ kyQ W (e, b.num, (b.den : Int))) = decide (a ≤ b) := by
  have h0 : (0 : Rat) < (W : Rat) := by exact_mod_cast hW
  have h1 := ky_eq (c := c) ha
  have h2 := ky_eq (c := e) hb
  refine decide_eq_decide.mpr ?_
  constructor
  · intro h
    have h3 : ((kyQ W (c, a.num, (a.den : Int)) : Int) : Rat) ≤ ((kyQ W (e, b.num, (b.den : Int)) : Int) : Rat) := by exact_mod_cast h
    rw [h1, h2] at h3
    refine Rat.not_lt.mp fun z => ?_
    have := Rat.mul_lt_mul_of_pos_right z h0
    exact absurd h3 (Rat.not_le.mpr this)
  · intro h
    have h3 : a * (W : Rat) ≤ b * (W : Rat) := Rat.mul_le_mul_of_nonneg_right h (by grind)
    rw [← h1, ← h2] at h3
    exact_mod_cast h3
theorem s_postK {P : Addr} {q : Str} {i : Nat} {σ : L2.St} {Q : VK} {p : Addr} {zs : List (Addr × Rat)} {ts : List Rat} {W : Int} {k m : Nat} (hW : σ[i]? = some (some (.int W))) (hl : H p = some (.lst ((zs.map (·.1)).map V.ref))) (ez : zs.map (·.2) = frsQ [] ts)
    (hz : ∀ z ∈ zs, TupM K M H z.1 [.int z.2.num, .int z.2.den]) (W0 : 0 < W) (hd : ∀ t ∈ ts, (t.den : Int) ∣ W) (hb : ∀ t ∈ ts, BQ k t) (bW : Bd m W) (hk : k < 9000) (hm : k + m < 999990) (hT : LamX.Tabs [(P, q)] H) (ow : OwnN M H)
    (h : ∀ v H', LamX.ExtN H H' → LamX.Tabs [(P, q)] H' → rS rFr K M H' v (srtQ ts) → Q v H') : postK K P q i σ Q (.ref p) H := by
  have mem : ∀ z ∈ zs, z.2 ∈ ts := fun z hz' => by
    have : z.2 ∈ frsQ [] ts := by rw [← ez]; exact List.mem_map_of_mem hz'
    rw [frs_mem] at this
    exact this.elim (fun q => absurd q List.not_mem_nil) id
  refine ⟨p, zs.map fun z => (z.1, z.2.num, (z.2.den : Int)), W, rfl, hW, ?_, fun b hb' => ?_, hT, fun H2 v eN T2 hn => ?_⟩
  · rw [List.map_map] at hl ⊢
    exact .inl (.inl hl)
  · obtain ⟨z, hz', rfl⟩ := List.mem_map.mp hb'
    have bz := hb _ (mem z hz')
    have dz := hd _ (mem z hz')
    have d0 := q_den_pos z.2
    refine ⟨(hz z hz').sq, cdiv_of (show (z.2.den : Int) ≠ 0 by omega) bz.2 hk, cmul_of bz.1 (b := m) ?_ (by omega)⟩
    obtain ⟨c, hc⟩ := dz
    show Bd m (W.fdiv z.2.den)
    rw [Int.fdiv_eq_ediv_of_nonneg _ (by omega)]
    refine bW.of_le ?_
    exact Int.natAbs_ediv_le_natAbs _ _
  · have n1 : ¬ M v := fun z => by
      obtain ⟨o, e, _⟩ := ow.ext eN v z
      rw [hn] at e
      cases e
    have s2 : Same H2 (upd H2 v (.lst (((zs.map fun z => (z.1, z.2.num, (z.2.den : Int))).mergeSort fun a b => decide (kyQ W a ≤ kyQ W b)).map fun b => V.ref b.1))) := Same.upd_new hn
    refine h _ _ (eN.trans (ExtN.of_same s2)) (T2.ext s2) ?_
    have e1 : ((zs.map fun z => (z.1, z.2.num, (z.2.den : Int))).mergeSort fun a b => decide (kyQ W a ≤ kyQ W b)) = (zs.mergeSort fun a b => decide (a.2 ≤ b.2)).map fun z => (z.1, z.2.num, (z.2.den : Int)) := by
      refine (List.map_mergeSort fun a ha b hb => ?_).symm
      exact (ky_le W0 (hd _ (mem a ha)) (hd _ (mem b hb))).symm
    have e2 : (zs.mergeSort fun a b => decide (a.2 ≤ b.2)).map (·.2) = srtQ ts := by
      unfold srtQ
      rw [← ez]
      exact List.map_mergeSort fun a _ b _ => rfl
    refine ⟨v, _, rfl, n1, upd_same, ?_⟩
    have e3 : Paired (rFr K M (upd H2 v (.lst (((zs.map fun z => (z.1, z.2.num, (z.2.den : Int))).mergeSort fun a b => decide (kyQ W a ≤ kyQ W b)).map fun b => V.ref b.1)))) ((zs.mergeSort fun a b => decide (a.2 ≤ b.2)).map fun z => V.ref z.1) (srtQ ts) := by
      rw [← e2]
      refine paired_of fun z hz' => ?_
      have hz2 := List.mem_mergeSort.mp hz'
      exact ⟨z.1, rfl, (((hz z hz2).ext eN).same s2)⟩
    have e4 : ((zs.map fun z => (z.1, z.2.num, (z.2.den : Int))).mergeSort fun a b => decide (kyQ W a ≤ kyQ W b)).map (fun b => V.ref b.1) = (zs.mergeSort fun a b => decide (a.2 ≤ b.2)).map fun z => V.ref z.1 := by
      rw [e1, List.map_map]
      rfl
    exact Eq.subst (motive := fun l => Paired _ l _) e4.symm e3
end
theorem prd_rev {α β : Type} {R : α → β → Prop} : ∀ {l : List α} {m : List β}, Paired R l m → Paired R l.reverse m.reverse
  | _, _, .nil => .nil
  | _, _, .cons h t => by
    rw [List.reverse_cons, List.reverse_cons]
    exact Prd.append (prd_rev t) (.cons h .nil)
theorem Rp.extN2 {α : Type} {R : Rp α} {K : Fg} {M : Ms} {H H' : Hp} {v : V} {a : α} (s : LamX.ExtN H H') (h : R K M H v a) (i : MonoV R) : R K M H' v a := i.mono (Lives.of_ext s) h
theorem s_revL {α : Type} {A : Rp α} [Mono A] {K : Fg} {M : Ms} {te : TE} {σ : L2.St} {H : Hp} {Q : VK} (h : te σ H fun x H1 => ∃ a xs, x = .ref a ∧ SqL K H1 a xs ∧ ∀ p, H1 p = none → Q (.ref p) (upd H1 p (.lst xs.reverse))) : tRevL K te σ H Q := h
theorem s_rev {α : Type} {A : Rp α} [Mono A] {K : Fg} {M : Ms} {H : Hp} {x : V} {as : List α} {Q : VK} (h : rL A K M H x as) (ow : Own M H) (k : ∀ v H', Same H H' → rL A K M H' v as.reverse → Q v H') : ∃ a xs, x = .ref a ∧ SqL K H a xs ∧ ∀ p, H p = none → Q (.ref p) (upd H p (.lst xs.reverse)) := by
  obtain ⟨p, vs, rfl, l, r⟩ := h
  refine ⟨p, vs, rfl, l.sq, fun q n => k _ _ (Same.upd_new n) ⟨q, _, rfl, .inl ⟨ow.fresh n, .inl upd_same⟩, ?_⟩⟩
  have r2 := Prd.monoR (fun _ _ z => Rp.same (Same.upd_new (o := .lst vs.reverse) n) z) r
  exact prd_rev r2
/-- the first that is not 0 -/
def firstNZ (f : Rat → Int) : List Rat → Int
  | [] => 0
  | a :: r => if f a ≠ 0 then f a else firstNZ f r
theorem firstNZ_at {f : Rat → Int} : ∀ {l : List Rat} {i : Nat} {a : Rat}, l[i]? = some a → f a ≠ 0 → (∀ (j : Nat) (b : Rat), j < i → l[j]? = some b → f b = 0) → firstNZ f l = f a
  | [], _, _, e, _, _ => by cases e
  | b :: r, 0, a, e, h, _ => by
    cases e
    unfold firstNZ
    rw [if_pos h]
  | b :: r, i + 1, a, e, h, z => by
    unfold firstNZ
    rw [if_neg (fun y => y (z 0 b (by omega) rfl))]
    exact firstNZ_at (i := i) e h fun j c hj hc => z (j + 1) c (by omega) hc
theorem firstNZ_no {f : Rat → Int} : ∀ {l : List Rat}, (∀ (j : Nat) (b : Rat), l[j]? = some b → f b = 0) → firstNZ f l = 0
  | [], _ => rfl
  | b :: r, z => by
    unfold firstNZ
    rw [if_neg (fun y => y (z 0 b rfl))]
    exact firstNZ_no fun j c hc => z (j + 1) c hc
/-! ## all but one list and the tables stay -/
def ExtB (r : Addr) (H H' : Hp) : Prop := ∀ b o, H b = some o → b ≠ r → (∀ ps, o ≠ .tbl ps) → H' b = some o
theorem ExtB.refl (r : Addr) (H : Hp) : ExtB r H H := fun _ _ e _ _ => e
theorem ExtB.ext {r : Addr} {H H1 H2 : Hp} (a : ExtB r H H1) (e : LamX.ExtN H1 H2) : ExtB r H H2 := fun b o h n t => e b o (a b o h n t) t
theorem ExtB.upd {r : Addr} {H H1 : Hp} {o : HO} (a : ExtB r H H1) : ExtB r H (upd H1 r o) := fun b u h n t => by
  rw [upd_ne n]
  exact a b u h n t
theorem ExtB.lives {M : Ms} {r : Addr} {H H1 : Hp} (a : ExtB r H H1) : Lives (mIn M r) H H1 := fun b o h n t => a b o h (fun z => n (.inr z)) t
theorem ExtB.own {M : Ms} {r : Addr} {H H1 : Hp} {xs : List V} (a : ExtB r H H1) (h : OwnN M H) (n : ¬ M r) (e : H1 r = some (.lst xs)) : OwnN (mIn M r) H1 := fun b m => by
  rcases m with m | rfl
  · obtain ⟨o, f, t⟩ := h b m
    exact ⟨o, a b o f (fun z => n (z ▸ m)) t, t⟩
  · exact ⟨_, e, fun _ q => by cases q⟩
theorem ExtB.out {r : Addr} {H0 H H1 : Hp} (a : ExtB r H H1) (e : LamX.ExtN H0 H) (n : H0 r = none) : LamX.ExtN H0 H1 := fun b o h t => a b o (e b o h t) (ne_of_none h n) t
theorem ExtB.out2 {r : Addr} {H0 H H' H1 : Hp} (a : ExtB r H' H1) (s : Same H H') (e : LamX.ExtN H0 H) (n : H r = none) : LamX.ExtN H0 H1 := fun b o h t => a b o (s _ _ (e b o h t)) (ne_of_none (e b o h t) n) t
theorem tabs_upd {T : List (Addr × Str)} {H : Hp} {r : Addr} {xs ys : List V} (e : H r = some (.lst xs)) (t : LamX.Tabs T H) : LamX.Tabs T (upd H r (.lst ys)) := fun p hp => by
  obtain ⟨ps, e1, e2, e3⟩ := t p hp
  refine ⟨ps, by rw [upd_ne (fun z => by rw [z, e] at e1; cases e1)]; exact e1, e2, fun pos cv hc => ?_⟩
  obtain ⟨c, f1, f2⟩ := e3 pos cv hc
  refine ⟨c, f1, ?_⟩
  rw [upd_ne (fun z => ?_)]
  · exact f2
  · rw [z, e] at f2
    unfold LamX.CodeO at f2
    cases f2
end

/-! ## nested data -/
mutual
inductive RD (K : Fg) (M : Ms) (H : Hp) : V → PyData → Prop
  | non : RD K M H .non .none
  | bl (b : Bool) : RD K M H (.bl b) (.bool b)
  | int (i : Int) : RD K M H (.int i) (.int i)
  | str (x : Str) : RD K M H (.str x) (.str x)
  | tup {p : Addr} {vs : List V} {xs : List PyData} : TupM K M H p vs → RDs K M H vs xs → RD K M H (.ref p) (.tuple xs)
  | lst {p : Addr} {vs : List V} {xs : List PyData} : LstM K M H p vs → RDs K M H vs xs → RD K M H (.ref p) (.list xs)
inductive RDs (K : Fg) (M : Ms) (H : Hp) : List V → List PyData → Prop
  | nil : RDs K M H [] []
  | cons {v : V} {vs : List V} {d : PyData} {ds : List PyData} : RD K M H v d → RDs K M H vs ds → RDs K M H (v :: vs) (d :: ds)
end
theorem RDs.of_prd {K : Fg} {M : Ms} {H : Hp} {α : Type} {R : V → α → Prop} {f : α → PyData} (h : ∀ v a, R v a → RD K M H v (f a)) : ∀ {vs : List V} {as : List α}, Paired R vs as → RDs K M H vs (as.map f)
  | _, _, .nil => .nil
  | _, _, .cons r t => .cons (h _ _ r) (RDs.of_prd h t)
mutual
theorem RD.mono {K : Fg} {M M' : Ms} {H H' : Hp} (t : Tr M H M' H') : ∀ {d : PyData} {v : V}, RD K M H v d → RD K M' H' v d
  | .none, _, h => by cases h; exact .non
  | .bool b, _, h => by cases h; exact .bl b
  | .int i, _, h => by cases h; exact .int i
  | .str x, _, h => by cases h; exact .str x
  | .tuple xs, _, h => by
    cases h with
    | tup a b => exact .tup (a.mono t) (RDs.mono t b)
  | .list xs, _, h => by
    cases h with
    | lst a b => exact .lst (a.mono t) (RDs.mono t b)
  | .dict _, _, h => by cases h
theorem RDs.mono {K : Fg} {M M' : Ms} {H H' : Hp} (t : Tr M H M' H') : ∀ {ds : List PyData} {vs : List V}, RDs K M H vs ds → RDs K M' H' vs ds
  | [], _, h => by cases h; exact .nil
  | d :: ds, _, h => by
    cases h with
    | cons a b => exact .cons (RD.mono t a) (RDs.mono t b)
end
def rRD : Rp PyData := RD
instance : Mono rRD := ⟨fun t h => RD.mono t h⟩
/-- what a value of this meaning looks like to repr -/
class DataR {α : Type} (R : Rp α) where
  to : α → PyData
  rd : ∀ {K : Fg} {M : Ms} {H : Hp} {v : V} {a : α}, R K M H v a → RD K M H v (to a)
def dFr (q : Rat) : PyData := .tuple [.int q.num, .int q.den]
instance : DataR rInt := ⟨.int, fun h => by cases h; exact .int _⟩
instance : DataR rBl := ⟨.bool, fun h => by cases h; exact .bl _⟩
instance : DataR rFr := ⟨dFr, fun ⟨p, e, t⟩ => by subst e; exact .tup t (.cons (.int _) (.cons (.int _) .nil))⟩
instance {α β : Type} (A : Rp α) (B : Rp β) [a : DataR A] [b : DataR B] : DataR (rT2 A B) := ⟨fun x => .tuple [a.to x.1, b.to x.2], fun ⟨p, x, y, e, t, h1, h2⟩ => by subst e; exact .tup t (.cons (a.rd h1) (.cons (b.rd h2) .nil))⟩
instance {α : Type} (A : Rp α) [a : DataR A] : DataR (rL A) := ⟨fun xs => .list (xs.map a.to), fun ⟨p, vs, e, t, h⟩ => by subst e; exact .lst t (RDs.of_prd (fun _ _ r => a.rd r) h)⟩
instance {α : Type} (A : Rp α) [a : DataR A] : DataR (rS A) := ⟨fun xs => .list (xs.map a.to), fun ⟨p, vs, e, n, t, h⟩ => by subst e; exact .lst (.inl ⟨n, .inl t⟩) (RDs.of_prd (fun _ _ r => a.rd r) h)⟩
instance {α : Type} (A : Rp α) [a : DataR A] : DataR (rTp A) := ⟨fun xs => .tuple (xs.map a.to), fun ⟨p, vs, e, t, h⟩ => by subst e; exact .tup t (RDs.of_prd (fun _ _ r => a.rd r) h)⟩
section
variable {X : Cx} {pins : List (Addr × Obj)} {σ : L2.St} {H : Hp} {s : Shared} {M : Ms}
mutual
theorem RD.reads (I : Inv X pins σ H s) : ∀ {d : PyData} {v : V} {u : Value}, RD X.K M H v d → L2.RelV v u → ∃ as, Reads s.heap u d as
  | .none, _, _, h, r => by cases h; cases r; exact ⟨_, .none⟩
  | .bool b, _, _, h, r => by cases h; cases r; exact ⟨_, .bool b⟩
  | .int i, _, _, h, r => by cases h; obtain ⟨t, rfl⟩ := r; exact ⟨_, .int i t⟩
  | .str x, _, _, h, r => by cases h; obtain ⟨t, rfl⟩ := r; exact ⟨_, .str x t⟩
  | .tuple xs, _, _, h, r => by
    cases h with
    | tup t ds =>
      cases r
      obtain ⟨its, rv, ⟨ob, e, c, n, d⟩, _⟩ := I.tuple t.sq
      obtain ⟨as, q⟩ := RDs.reads I ds rv
      exact ⟨_, .tuple (vs := its.toArray) e c d (by simpa using q)⟩
  | .list xs, _, _, h, r => by
    cases h with
    | lst t ds =>
      cases r
      obtain ⟨its, rv, ⟨ob, n, e, c, d, z⟩, _⟩ := I.list t.sq
      obtain ⟨as, q⟩ := RDs.reads I ds rv
      exact ⟨_, .list (vs := its.toArray) e c z (by simpa using q)⟩
  | .dict kvs, _, _, h, _ => by cases h
theorem RDs.reads (I : Inv X pins σ H s) : ∀ {ds : List PyData} {vs : List V} {us : List Value}, RDs X.K M H vs ds → Vals vs us → ∃ as, ReadsAll s.heap us ds as
  | [], _, _, h, r => by cases h; cases r; exact ⟨_, .nil⟩
  | d :: ds, _, _, h, r => by
    cases h with
    | cons a b =>
      cases r with
      | cons r1 r2 =>
        obtain ⟨as, q1⟩ := RD.reads I a r1
        obtain ⟨bs, q2⟩ := RDs.reads I b r2
        exact ⟨_, .cons q1 q2⟩
end
/-- how long a text may be -/
structure FitD (n e : Nat) (d : PyData) : Prop where
  sh : d.showable = true
  nd : d.hasDict = false
  ln : d.shown.length ≤ n
  dp : d.depth ≤ e
def rRepD (K : Fg) : List V → Hp → VK → Prop := fun xs H Q => ∃ (M : Ms) (v : V) (d : PyData), xs = [v] ∧ RD K M H v d ∧ FitD sizeLine 30 d ∧ Q (.str d.shown) H
/-- repr(x) where no repr is under way -/
theorem callRepD {k : Nat} (hg : X.A.guards = some []) (hr : Room k X.A) (K : Fg) (hK : X.K = K := by rfl) : CallR X (.builtin "repr") (rRepD K) := by
  intro pins s σ H xs us Q I r h
  obtain ⟨M, v, d, rfl, rd, f, q⟩ := h
  subst hK
  obtain ⟨u, rfl, rv⟩ := vals1 r
  obtain ⟨as, z⟩ := rd.reads I rv
  have out : ∀ h' tk u, (∀ b o, s.heap.get? b = some o → h'.get? b = some o) → EP X pins σ Q (.str d.shown u) { s with heap := h', toks := tk } := fun h' tk u hk => ⟨.str d.shown, H, I.kept hk, ⟨_, rfl⟩, q⟩
  have seq : ∀ p, v = .ref p → wpAny (model X.prog X.w) X.A (call (.builtin "repr") [u]) (EP X pins σ Q) X.xe s := fun p e => by
    subst e
    cases rv
    exact repr_of_reads' z f.sh (PyData.noDict_hsm f.nd) hg (by have := hr.un; have := f.dp; omega) (fun _ _ e => e) (fun h' u tk hk => out h' tk u hk) f.ln
  cases rd with
  | non => cases rv; exact PySem.P.repr_of_none (out _ _ _ fun _ _ e => e)
  | bl b => cases rv; exact PySem.P.repr_of_bool (by have := out s.heap (s.toks + 1) s.toks fun _ _ e => e; cases b <;> exact this)
  | int i => obtain ⟨t, rfl⟩ := rv; exact PySem.P.repr_of_int (by have := f.sh; simp only [PyData.showable, decide_eq_true_eq] at this; exact this) (out _ _ _ fun _ _ e => e)
  | str x => obtain ⟨t, rfl⟩ := rv; exact PySem.P.repr_of_str (out _ _ _ fun _ _ e => e) f.ln
  | tup a b => exact seq _ rfl
  | lst a b => exact seq _ rfl
end
theorem s_repO {K : Fg} {M : Ms} {H : Hp} {v : V} {d : PyData} {Q : VK} (h : RD K M H v d) (f : FitD sizeLine 30 d) (q : Q (.str d.shown) H) : rRepD K [v] H Q := ⟨M, v, d, rfl, h, f, q⟩
theorem s_repD {α : Type} {R : Rp α} [D : DataR R] {K : Fg} {M : Ms} {H : Hp} {v : V} {a : α} {Q : VK} (h : R K M H v a) (f : FitD sizeLine 30 (D.to a)) (q : Q (.str (D.to a).shown) H) : rRepD K [v] H Q := ⟨M, v, D.to a, rfl, D.rd h, f, q⟩
theorem s_rep2 {α β : Type} {A : Rp α} {B : Rp β} [DataR A] [DataR B] {K : Fg} {M : Ms} {H : Hp} {v : V} {ab : α × β} {Q : VK} (h : rT2 A B K M H v ab) (f : FitD sizeLine 30 (DataR.to (rT2 A B) ab)) (q : Q (.str (DataR.to (rT2 A B) ab).shown) H) : rRepD K [v] H Q := s_repD (R := rT2 A B) h f q
theorem s_repS {α : Type} {A : Rp α} [DataR A] {K : Fg} {M : Ms} {H : Hp} {v : V} {as : List α} {Q : VK} (h : rS A K M H v as) (f : FitD sizeLine 30 (DataR.to (rS A) as)) (q : Q (.str (DataR.to (rS A) as).shown) H) : rRepD K [v] H Q := s_repD (R := rS A) h f q
theorem s_repL {α : Type} {A : Rp α} [DataR A] {K : Fg} {M : Ms} {H : Hp} {v : V} {as : List α} {Q : VK} (h : rL A K M H v as) (f : FitD sizeLine 30 (DataR.to (rL A) as)) (q : Q (.str (DataR.to (rL A) as).shown) H) : rRepD K [v] H Q := s_repD (R := rL A) h f q
theorem s_neSame {K : Fg} {H : Hp} {x : Str} {Q : VK} (h : Q (.bl false) H) : rNeA K (.str x) (.str x) H Q := .inl ⟨rfl, by
  rw [decide_eq_true rfl]
  exact h⟩
theorem fit_int {k : Nat} {i : Int} (b : Bd k i) (h : k < 1900) : FitD (k + 2) 0 (.int i) := by
  have L : i.natAbs.log2 < k + 1 := by
    rcases Nat.eq_zero_or_pos i.natAbs with z | z
    · rw [z]; exact Nat.succ_pos _
    · exact (Nat.log2_lt (by omega)).mpr (Nat.lt_of_lt_of_le b (Nat.pow_le_pow_right (by decide) (by omega)))
  refine ⟨?_, rfl, ?_, Nat.zero_le _⟩
  · simp only [PyData.showable]
    exact decide_eq_true (by omega)
  · show (Str.ofString (toString i)).length ≤ k + 2
    have := int_text_length_le (Nat.succ_pos k) L
    rw [PySem.ofString_length]
    omega
theorem FitD.mono {n n' e e' : Nat} {d : PyData} (f : FitD n e d) (h : n ≤ n') (h' : e ≤ e') : FitD n' e' d := ⟨f.sh, f.nd, Nat.le_trans f.ln h, Nat.le_trans f.dp h'⟩
theorem fit_all {n e : Nat} : ∀ {xs : List PyData}, (∀ x ∈ xs, FitD n e x) → PyData.showableAll xs = true ∧ PyData.hasDictAll xs = false ∧ ((PyData.shownAll xs).map (·.length)).sum + 2 * (PyData.shownAll xs).length ≤ (n + 2) * xs.length ∧ PyData.depthAll xs ≤ e
  | [], _ => ⟨rfl, rfl, by simp [PyData.shownAll], Nat.zero_le _⟩
  | x :: xs, h => by
    obtain ⟨a, b, c, d⟩ := fit_all fun y hy => h y (List.mem_cons_of_mem _ hy)
    have f := h x List.mem_cons_self
    refine ⟨by simp only [PyData.showableAll, f.sh, a]; rfl, by simp only [PyData.hasDictAll, f.nd, b]; rfl, ?_, ?_⟩
    · simp only [PyData.shownAll, List.map_cons, List.sum_cons, List.length_cons, Nat.mul_add]
      have := f.ln
      omega
    · simp only [PyData.depthAll]
      exact Nat.max_le.mpr ⟨f.dp, d⟩
theorem fit_tup {n e m : Nat} {xs : List PyData} (h : ∀ x ∈ xs, FitD n e x) (hm : xs.length ≤ m) : FitD ((n + 2) * m + 3) (e + 1) (.tuple xs) := by
  obtain ⟨a, b, c, d⟩ := fit_all h
  have l := tupleText_len_le (PyData.shownAll xs)
  have := Nat.mul_le_mul_left (n + 2) hm
  refine ⟨a, b, ?_, Nat.succ_le_succ d⟩
  show (tupleText (PyData.shownAll xs)).length ≤ _
  omega
theorem fit_lst {n e m : Nat} {xs : List PyData} (h : ∀ x ∈ xs, FitD n e x) (hm : xs.length ≤ m) : FitD ((n + 2) * m + 3) (e + 1) (.list xs) := by
  obtain ⟨a, b, c, d⟩ := fit_all h
  have l := listText_len_le (PyData.shownAll xs)
  have := Nat.mul_le_mul_left (n + 2) hm
  refine ⟨a, b, ?_, Nat.succ_le_succ d⟩
  show (listText (PyData.shownAll xs)).length ≤ _
  omega
theorem fit_pair {n e : Nat} {x y : PyData} (hx : FitD n e x) (hy : FitD n e y) : FitD (2 * n + 7) (e + 1) (.tuple [x, y]) :=
  (fit_tup (n := n) (e := e) (m := 2) (by simp only [List.mem_cons, List.not_mem_nil, or_false]; rintro _ (rfl | rfl) <;> assumption) (by simp)).mono (by omega) (by omega)
theorem fit_fr {k : Nat} {q : Rat} (b : BQ k q) (h : k < 1900) : FitD (2 * k + 11) 1 (dFr q) := (fit_pair (fit_int b.1 h) (fit_int b.2 h)).mono (by omega) (by omega)
/-! ## the law's own def, run where no repr is under way -/
structure RunG (P : Program) (w : World) (K : Fg) (mg : Str → Option Value) (base : Heap) (k : Nat) (f : Addr) (fd : FuncData) (x : Str) (sp : Sp) : Prop where
  run : ∀ (s : Shared) (H : Hp) (u : Value) (v : V) (Q : VK) (E : XK), Room k callerA → Env0 P w K mg base callerA [] s H → BindsTo s fd ⟨[u], []⟩ [(x, u)] → L2.RelV v u → sp [v] H Q E →
    codeAny (model P w) callerA (.call (.ref f) ⟨[u], []⟩) (CR CX0 [] P w H s Q E) s
theorem Fun.okG {P : Program} {w : World} {K : Fg} {mg : Str → Option Value} {base : Heap} {x qual a : Str} {st : Stmt} {f : Addr} {oc : Value} {od an : Option Addr} {osl : Array (Option Value)} {dV kV doc pm cdv ct : Value} {N : List Str} {k : Nat} {sp : Sp}
    (l : K.lookup f = some ⟨oc, od, .func (PySem.W.fnOf x qual (defArgs st) (defBody st) (defScope st) dV kV doc pm an cdv ct), osl⟩) (c : PySem.W.codeIn K cdv qual = true) (S : FnScope N [a] (defScope st))
    (b : ∀ (s : Shared) (H : Hp) (vs : List V) (Q : VK) (E : XK), Room k (callerA.deeper (envOfC qual (defScope st) s.heap.objs.size f cdv)) → sp vs H Q E →
      ∃ t, PSs (cxOf CX0 P w K mg base N qual (defScope st) f cdv callerA [] s H E).nox (defBody st) t ∧ t { nx := fun _ H' => Q .non H', rt := Q } (L2.start N vs) H) :
    RunG P w K mg base (k + 1) f (PySem.W.fnOf x qual (defArgs st) (defBody st) (defScope st) dV kV doc pm an cdv ct) a sp :=
  ⟨fun s H u v Q E hr e0 hb rv h => LamX.run_ofS (N := N) (ps := [a]) (us := [u]) (vs := [v]) l c S hr e0 hb (.cons rv .nil) rfl fun hr' => by
    obtain ⟨t, ht, q⟩ := b s H [v] Q E hr' h
    exact ⟨t, ht.nox, q⟩⟩
abbrev scrO (vs : List Value) : Obj := { cls := .type "list", data := .seq vs.toArray }
abbrev tblO : Obj := { cls := .none, data := .fields #[] }
/-- the first heap of a law's run: its tables, and the script where no fragment holds it -/
theorem begH (K : Fg) (T : List Addr) (a : Addr) (ob : Obj) (xs : List V) : ∃ G : Hp, (∀ b ∈ T, G b = some (.tbl #[])) ∧ (a ∉ T → K.lookup a = none → G a = some (.frz ob (.lst xs))) ∧
    ∀ b u, G b = some u → (b ∈ T ∧ u = .tbl #[]) ∨ (b = a ∧ K.lookup a = none ∧ u = .frz ob (.lst xs)) := by
  refine ⟨fun b => if b ∈ T then some (.tbl #[]) else if b = a ∧ (K.lookup a).isNone = true then some (.frz ob (.lst xs)) else none, fun b m => if_pos m, fun n e => ?_, fun b u e => ?_⟩
  · show (if a ∈ T then _ else _) = _
    rw [if_neg n, if_pos ⟨rfl, by rw [e]; rfl⟩]
  · dsimp only at e
    split at e
    · rename_i m
      cases e
      exact .inl ⟨m, rfl⟩
    · split at e
      · rename_i m
        cases e
        exact .inr ⟨m.1, Option.isNone_iff_eq_none.mp m.2, rfl⟩
      · cases e
theorem law_callG {P : Program} {w : World} {K : Fg} {mg mb : Str → Option Value} {k : Nat} {fa a : Addr} {cs : List (Addr × Addr)} {fd : FuncData} {x : Str} {sp : Sp} {s : Shared} {vs : List Value} {ns : List Int}
    (KX : K.In s.heap) (n1 : s.heap.Ns mainGlobals mg) (n2 : s.heap.Ns builtinsNs mb) (n3 : ∀ y : Str, y ≠ "__name__" → mb y = bootBuiltins y) (n4 : s.heap.NoLimit) (g0 : s.gens = #[])
    (tb : ∀ q ∈ cs, s.heap.get? q.2 = some tblO) (tk : ∀ q ∈ cs, K.lookup q.2 = none) (cd : ∀ q ∈ cs, PySem.W.CodeHd s.heap q.1 q.2)
    (bm : ∃ (m : Addr) (om : Obj), mg "__builtins__" = some (.ref m) ∧ m ≠ builtinsNs ∧ s.heap.get? m = some om ∧ om.cls = .type "module" ∧ om.dict = some builtinsNs ∧ om.data = .plain)
    (oa : s.heap.get? a = some (scrO vs)) (hi : IntsAre vs ns) (hl : ns.length ≤ sizeLine) (hr : Room k callerA)
    (F : ∀ base : Heap, K.In base → base.Ns mainGlobals mg → (∀ q ∈ cs, LamX.TabB base mg q.1 q.2) → RunG P w K mg base k fa fd x sp) (hb : ∀ (s : Shared) (u : Value), BindsTo s fd ⟨[u], []⟩ [(x, u)])
    (hs : ∀ H : Hp, (∀ q ∈ cs, H q.2 = some (.tbl #[])) → SqL K H a (ns.map V.int) → sp [.ref a] H (fun v _ => v = .bl true) fun _ _ _ => False) :
    codeAny (model P w) callerA (.call (.ref fa) ⟨[.ref a], []⟩) (fun r s' => r = .ok (.ret (.bool true)) ∧ OldK s.heap s'.heap ∧ s'.os = s.os ∧ AllBare s'.gens) s := by
  have rvals := vals_ints hi
  have len := hi.length
  generalize hT : cs.map (·.2) = T
  have inT : ∀ q ∈ cs, q.2 ∈ T := fun q m => by rw [← hT]; exact List.mem_map.mpr ⟨q, m, rfl⟩
  have ofT : ∀ b ∈ T, ∃ q ∈ cs, q.2 = b := fun b m => by rw [← hT] at m; exact List.mem_map.mp m
  have isT : ∀ b ∈ T, s.heap.get? b = some tblO ∧ K.lookup b = none := fun b m => by
    obtain ⟨q, m1, e⟩ := ofT b m
    rw [← e]
    exact ⟨tb q m1, tk q m1⟩
  have aT : a ∉ T := fun m => by
    have e := (isT a m).1.symm.trans oa
    cases e
  obtain ⟨G, gT, gA, gO⟩ := begH K T a (scrO vs) (ns.map V.int)
  have vis : ∀ {b : Addr} {o : Obj}, s.heap.get? b = some o → (∀ l n, o.data ≠ .seq l n) → o.data ≠ .fields #[] → (hidT s.heap G).get? b = some o := fun {b o} e d1 d2 => hidT_get e (by
    cases z : G b with
    | none => rfl
    | some u =>
      rcases gO b u z with ⟨m, _⟩ | ⟨rfl, _⟩
      · rw [(isT b m).1] at e
        cases e
        exact absurd rfl d2
      · rw [oa] at e
        cases e
        exact absurd rfl (d1 _ _))
  have nsG : ∀ {b : Addr} {m : Str → Option Value}, s.heap.Ns b m → (hidT s.heap G).Ns b m := by
    rintro b m ⟨o, es, ep, e, d, r⟩
    exact ⟨o, es, ep, vis e (fun l n z => by rw [d] at z; cases z) (fun z => by rw [d] at z; cases z), d, r⟩
  have inG : K.In (hidT s.heap G) := fun b o e => hidT_get (KX b o e) (by
    cases z : G b with
    | none => rfl
    | some u =>
      rcases gO b u z with ⟨m, _⟩ | ⟨rfl, e2, _⟩
      · rw [(isT b m).2] at e
        cases e
      · rw [e2] at e
        cases e)
  have mdG : L2.Mod K mg (hidT s.heap G) := by
    obtain ⟨mc, c1, c2⟩ := n4
    exact ⟨inG, nsG n1, ⟨mb, nsG n2, n3⟩, ⟨mc, nsG c1, c2⟩⟩
  have tbG : ∀ q ∈ cs, LamX.TabB (hidT s.heap G) mg q.1 q.2 := by
    intro q m
    refine ⟨?_, ?_, fun z => ?_⟩
    · obtain ⟨o, us, file, tf, flags, tg, inF, text, tt, e1, r1, r2, r3, r⟩ := cd q m
      refine ⟨o, us, file, tf, flags, tg, inF, text, tt, vis e1 (fun l n z => by rw [r2] at z; cases z) (fun z => ?_), r1, r2, r3, r⟩
      rw [r2] at z
      cases z
      simp at r3
    · obtain ⟨m0, om, b1, b2, b3, b4, b5, b6⟩ := bm
      refine ⟨m0, om, b1, b2, fun z => ?_, fun z => ?_, vis b3 (fun l n z => by rw [b6] at z; cases z) (fun z => by rw [b6] at z; cases z), b4, b5, b6⟩
      · obtain ⟨o, es, ep, e, d, _⟩ := n1
        rw [z, e] at b3
        cases b3
        rw [d] at b6
        cases b6
      · rw [z, tb q m] at b3
        cases b3
        cases b6
    · obtain ⟨o, es, ep, e, d, _⟩ := n1
      rw [z, tb q m] at e
      cases e
      cases d
  have okG : HOk P w G s.heap := fun b u z => by
    rcases gO b u z with ⟨m, rfl⟩ | ⟨rfl, _, rfl⟩
    · exact (isT b m).1
    · exact ⟨oa, by rw [List.length_map]; exact hl, vs, _, rvals, oa⟩
  have sqG : SqL K G a (ns.map V.int) := by
    cases z : K.lookup a with
    | none => exact .inl (.inr ⟨_, gA aT z⟩)
    | some o =>
      have e := (KX a o z).symm.trans oa
      cases e
      exact .inr ⟨_, vs.toArray, _, z, rfl, rfl, rfl, by rw [List.size_toArray, len]; exact hl, by simpa using rvals⟩
  have nf : ∀ b : Addr, b ∉ ([] : List Addr) := fun b m => nomatch m
  have env : Env0 P w K mg (hidT s.heap G) callerA [] s G := ⟨rfl, mdG, fun b o e => of_hidT e, Nat.le_of_eq (hidT_size _ _), trivial, fun b m => absurd m (nf b), okG, .of_eq g0⟩
  refine codeAny_mono ((F _ inG (nsG n1) tbG).run s G (.ref a) (.ref a) _ _ hr env (hb s (.ref a)) rfl (hs G (fun q m => gT _ (inT q m)) sqG)) fun r s' out => ?_
  match r, out with
  | .error e, out => exact False.elim out
  | .ok .next, out => exact False.elim out
  | .ok .brk, out => exact False.elim out
  | .ok .cont, out => exact False.elim out
  | .ok (.ret u), ⟨v, G', os, bare, un, ok', rv, (q : v = .bl true)⟩ =>
    subst q
    obtain rfl : u = Value.bool true := rv
    have same : ∀ b o, b ∉ T → s.heap.get? b = some o → s'.heap.get? b = some o := fun b o m e => by
      cases z : G b with
      | none => exact un.keep b o e z (nf b) (nf b)
      | some u =>
        rcases gO b u z with ⟨m1, _⟩ | ⟨rfl, _, rfl⟩
        · exact absurd m1 m
        · have z2 := ok' b _ (un.frzs b _ _ z)
          rw [oa] at e
          cases e
          exact z2.1
    have more : ∀ b ∈ T, ∃ l : Array Value, s'.heap.get? b = some { cls := .none, data := .fields l } := fun b m => by
      obtain ⟨l, z⟩ := un.tbls b #[] (gT b m)
      exact ⟨_, ok' b _ z⟩
    refine ⟨rfl, ⟨fun b o e => ?_, fun b o e => ?_⟩, os, bare⟩
    · by_cases m : b ∈ T
      · obtain ⟨l, el⟩ := more b m
        obtain ⟨q, m1, rfl⟩ := ofT b m
        rw [tb q m1] at e
        cases e
        exact .inr (.inl ⟨((cd q m1).tab (tb q m1)).isCodeTable, rfl, #[], l, rfl, by rw [Array.empty_append]; exact el⟩)
      · exact .inl (same b o m e)
    · by_cases m : b ∈ T
      · obtain ⟨l, el⟩ := more b m
        exact ⟨_, el⟩
      · exact ⟨o, same b o m e⟩
/-- what is known of the law at its head's heap -/
def LawG (l : PySem.W.OpenLaw) (w : World) (K : Fg) (k n : Nat) (x : Str) (mg : Str → Option Value) (fa : Addr) (h : Heap) : Prop :=
  ∃ (fd : FuncData) (cs : List (Addr × Addr)) (sp : Sp), (∀ q ∈ cs, h.get? q.2 = some tblO) ∧ (∀ q ∈ cs, K.lookup q.2 = none) ∧ (∀ q ∈ cs, PySem.W.CodeHd h q.1 q.2) ∧ (∀ (s : Shared) (u : Value), BindsTo s fd ⟨[u], []⟩ [(x, u)]) ∧
    (∀ (H : Hp) (a : Addr) (ns : List Int), ns.length ≤ n → (∀ z ∈ ns, Builtin.Int.intBits z ≤ 1048576) → (∀ q ∈ cs, H q.2 = some (.tbl #[])) → SqL K H a (ns.map V.int) → sp [.ref a] H (fun v _ => v = .bl true) fun _ _ _ => False) ∧
    ∀ base : Heap, K.In base → base.Ns mainGlobals mg → (∀ q ∈ cs, LamX.TabB base mg q.1 q.2) → RunG l.prog w K mg base k fa fd x sp
theorem walkG {l : PySem.W.OpenLaw} {n k : Nat} {q : Program} {loose : List Str} {XP : (Str → Option Value) → Heap → Prop} {YP : World → Heap → Prop} {d : DefRec} {K : Params → Fg} {x : Str}
    (hn : l.most = some n) (h2 : n ≤ sizeLine) (h3 : d.params.defaults = []) (hr : Room k callerA) (hY : ∀ (w : World) (h : Heap), YP w h → (K w.params).In h)
    (F : ∀ (w : World) (mg : Str → Option Value) (fa : Addr) (h : Heap), YP w h → (K w.params).In h → h.Ns mainGlobals mg → mg d.name = some (.ref fa) → LawG l w (K w.params) k n x mg fa h) :
    PySem.W.WalkO q loose XP YP l.row.toRowW d [] (fun f vs => PySem.call f vs) := by
  refine Att.attach_callB hn h3 fun w _ s mg mb fa o pm cd doc a vs ns G Y _ _ _ hm ha hi hlen hbits g0 => ?_
  obtain ⟨fd, cs, sp, t1, t2, t3, b, ps, R⟩ := F w mg fa _ Y (hY w _ Y) G.T.g hm
  exact law_callG (hY w _ Y) G.T.g G.T.b G.T.builtins G.T.nolimit g0 t1 t2 t3 G.T.bmain ha hi (Nat.le_trans hlen h2) hr R b fun H m z => ps H a ns hlen hbits m z

/-! ## an own exception whose __init__ says super().__init__(text), then self.row = row -/
def sp_ntI (C : Addr) (_ : Fg) : Sp := fun vs H Q _ => ∃ (a : Addr) (y : V), vs = [.ref a, y] ∧ H a = some (exo a C none) ∧ ∀ dx, H dx = none → dx ≠ a → Q .non (upd (upd H dx (exd dx [("row", y)])) a (exo a C (some dx)))
section
variable {P : Program} {w : World} {K : Fg} {mg : Str → Option Value} {base : Heap}
theorem fn_superInit {CX : CXT} {k : Nat} {f cda cc C : Addr} {qual txt file : Str} {params : Arguments} {scope : Scope} {p0 p1 p2 p3 p4 p5 p6 p7 p8 p9 : Pos} {j : Nat} {dV kV doc pm ct oc ccl cl : Value} {an od cdd cld : Option Addr} {osl ccs csl : Array (Option Value)} {vs : Array Value} {tf : Tok} {ar : Arg} {cdD : ClassData}
    {body : List Stmt} (hbd : body = [.Expr (.Call (.Attribute (.Call (.Name "super" p0) [] [] p1) "__init__" p2) [.Constant (.str txt) j p3] [] p4) p5, .Assign [.Attribute (.Name "self" p6) "row" p7] (.Name "row" p8) p9])
    (lk : K.lookup f = some ⟨oc, od, .func (PySem.W.ksFn "__init__" qual params body scope dV kV doc pm an (.ref cda) ct cc), osl⟩) (hcd : PySem.W.codeIn K (.ref cda) qual = true)
    (sS : scope.names.lookup ("self" : Str) = some .local) (sR : scope.names.lookup ("row" : Str) = some .local) (sU : scope.names.lookup ("super" : Str) = some .globalImplicit) (sC : scope.names.lookup ("__class__" : Str) = some .free) (nc : ∀ x ∈ scope.names, x.2 ≠ .cell) (sk : scope.kind = .function) (sco : scope.isCoroutine = false) (sge : scope.isGenerator = false)
    (hp : (params.posonlyargs ++ params.args).head? = some ar) (har : ar.arg = "self") (hcode : K.lookup cda = some ⟨ccl, cdd, .fields vs, ccs⟩) (hvs : vs[2]? = some (.str file tf)) (hfile : ((P.main.file : Str) == file) = true)
    (hcell : K.lookup cc = some ⟨cl, cld, .cell (some (.ref C)), csl⟩) (hD : PySem.W.clsIn K C = some cdD) (hsub : PySem.W.mroIn K C (.ref C) = some true) (hsup : PySem.W.nsIn K mainGlobals "super" = some none) (htop : (P.main.scope.names.lookup ("super" : Str)).isSome = false)
    (hm : PySem.W.ks_superIn K C C "__init__" = some (some (.builtin "ValueError.__init__"))) (hB : PySem.W.subIn K (.ref C) (.type "ValueError") = some true) (h3 : PySem.W.nsIn K cStatics "thirdparty.any" = some none)
    (hX : PySem.W.excInitIn K C [.type "ValueError", .type "Exception", .type "BaseException", .type "object"] "ValueError.__new__" = true) (T : OexC K C) (hno : PySem.W.findIn K (.ref C) "row" = some none)
    (en : ∀ L : Addr, interactive (callEnv (PySem.W.ksFn "__init__" qual params body scope dV kV doc pm an (.ref cda) ct cc) L f) = false ∧ swapsWith (.Call (.Attribute (.Call (.Name "super" p0) [] [] p1) "__init__" p2) [.Constant (.str txt) j p3] [] p4) none p5.line (callEnv (PySem.W.ksFn "__init__" qual params body scope dV kV doc pm an (.ref cda) ct cc) L f) = pure false ∧
      swapsWith (.Name "row" p8) (some (.Attribute (.Name "self" p6) "row" p7)) p9.line (callEnv (PySem.W.ksFn "__init__" qual params body scope dV kV doc pm an (.ref cda) ct cc) L f) = pure false ∧
      ∃ pl : Sem Bool, eval (.Call (.Attribute (.Call (.Name "super" p0) [] [] p1) "__init__" p2) [.Constant (.str txt) j p3] [] p4) (callEnv (PySem.W.ksFn "__init__" qual params body scope dV kV doc pm an (.ref cda) ct cc) L f) = (do
        let ov ← attributeBase (.Call (.Name "super" p0) [] [] p1) "__init__" (callEnv (PySem.W.ksFn "__init__" qual params body scope dV kV doc pm an (.ref cda) ct cc) L f) (eval (.Call (.Name "super" p0) [] [] p1) (callEnv (PySem.W.ksFn "__init__" qual params body scope dV kV doc pm an (.ref cda) ct cc) L f))
        standAt p2.atName
        let (g, first) ← holding [ov] (getMethod ov "__init__" pl)
        callWith p4 g first (backTo p4 (starEach [.Constant (.str txt) j p3] (callEnv (PySem.W.ksFn "__init__" qual params body scope dV kV doc pm an (.ref cda) ct cc) L f))) [])) :
    FnOk P w K mg base CX k f (PySem.W.ksFn "__init__" qual params body scope dV kV doc pm an (.ref cda) ct cc) ["self", "row"] (sp_ntI C K) := by
  refine ⟨fun vs H Q E h => by obtain ⟨a, y, rfl, _⟩ := h; rfl, fun A outer s H args us vs Q E hr e0 hb r h => ?_⟩
  obtain ⟨a, y, rfl, ha, q⟩ := h
  obtain ⟨u0, u1, rfl, r0, r1⟩ : ∃ u0 u1, us = [u0, u1] ∧ L2.RelV (.ref a) u0 ∧ L2.RelV y u1 := by
    cases r with
    | cons r0 r =>
      cases r with
      | cons r1 r => cases r; exact ⟨_, _, rfl, r0, r1⟩
  obtain rfl : u0 = Value.ref a := r0
  have KX : K.In s.heap := e0.mod.kin.keeps fun b o e => (e0.bs b o e).1
  have lim : s.heap.NoLimit := e0.mod.nolimit.keeps fun b o e => (e0.bs b o e).1
  have hg : s.heap.Ns mainGlobals mg := e0.mod.glob.keeps fun b o e => (e0.bs b o e).1
  obtain ⟨mb, hmb, hboot⟩ := e0.mod.blt
  have hmb : s.heap.Ns builtinsNs mb := hmb.keeps fun b o e => (e0.bs b o e).1
  obtain ⟨t1, hea⟩ := exo_at e0.hok ha
  have nK : ∀ b o, K.lookup b = some o → b ≠ a := fun b o e z => by
    have := (e0.bs b o (e0.mod.kin b o e)).2
    rw [z, ha] at this
    cases this
  have KG : K.In (PySem.W.hideAll s.heap [a]) := fun b o e => PySem.W.hideAll_get [a] (KX b o e) (by simp; exact nK b o e)
  refine PySem.ks_codeAny_call_defAt (s := s) (body := body) (binds := [("self", .ref a), ("row", u1)]) hr.depth (KX _ _ lk) rfl lim (PySem.W.codeRec_of KX hcd) rfl (hb) nc (fun x hx => ?_) (fun h₀ hns hk => ?_) sco sge sk
  · simp only [List.mem_cons, List.not_mem_nil, or_false] at hx
    rcases hx with rfl | rfl
    · exact sS
    · exact sR
  have F1 : Fr (PySem.W.hideAll s.heap [a]) s.heap.objs.size h₀ (fun x => [(("self" : Str), Value.ref a), ("row", u1)].reverse.lookup x) := ⟨hns, fun b o e => hk b o (PySem.W.of_hideAll [a] e), Nat.le_of_eq (PySem.W.hideAll_size [a] _)⟩
  have N1 : News (PySem.W.hideAll s.heap [a]) s.heap.objs.size h₀ [(a, PySem.W.excObj C t1 none .none)] := fun p hp => by
    rw [List.mem_singleton.mp hp]
    exact ⟨hk _ _ hea, Nat.ne_of_lt (Heap.lt_size hea), PySem.W.hideAll_none [a] (by simp)⟩
  have I1 := PySem.W.InstAt.of_exc0 N1 (List.mem_singleton.mpr rfl)
  have eb : bootBuiltins "super" = some (.type "super") := by decide +kernel
  obtain ⟨oD, hD1, hD2⟩ : ∃ oD, h₀.get? C = some oD ∧ oD.data = .cls cdD := by
    unfold PySem.W.clsIn at hD
    split at hD
    · rename_i c d cd' sl ho
      cases hD
      exact ⟨_, hk _ _ (KX _ _ ho), rfl⟩
    · cases hD
  have K1 : K.In h₀ := fun b o e => hk b o (KX b o e)
  obtain ⟨en1, en2, en3, pl, en4⟩ := en s.heap.objs.size
  subst hbd
  refine PySem.ks_wpAt_execs_cons (PySem.ks_wpAt_Expr_any (PySem.ks_wpAt_MethodCall (pl := pl) ?_ en4) en1 en2)
  refine PySem.ks_wpAt_super_base (f := f) (cc := cda) (ar := ar) sU sC (by decide) rfl (hk _ _ (KX _ _ lk)) rfl hp rfl (hk _ _ (KX _ _ hcode)) rfl hvs hfile htop ?_
  refine PySem.W.ks_loadName_global sk sU (PySem.Calls.loadGlobal_builtin (hg.keeps hk) (PySem.W.mg_none_of KX hg hsup) (hmb.keeps hk) ((hboot _ (by decide +kernel)).trans eb) ⟨rfl, ?_⟩)
  refine wpAny_loadName_free sk sC rfl ⟨_, hk _ _ (KX _ _ hcell), rfl⟩ ?_
  refine wpAny_loadName_local sk (by rw [har]; exact sS) hns (by rw [har]; rfl) ?_
  refine PySem.ks_wpAny_isType_cls hD1 hD2 ⟨rfl, ?_⟩
  refine PySem.ks_wpAny_call_super hD1 hD2 I1.at_ I1.cls (fun c e => ?_) (PySem.W.looks_mroIn K1 hsub) (fun h1 e1 k1 => ?_)
  · cases e
  obtain ⟨F2, N2, l2⟩ := PySem.W.ks_newsPush (s := { s with heap := h₀, toks := s.toks + 2 }) F1 N1 rfl e1 k1
  refine PySem.W.kxs_method PySem.W.kxs_ValueError F2 KG N2 (.head _) (PySem.W.InstAt.of_exc0 N2 (.tail _ (.head _))) h3 hm hB (by decide) fun qw h2 F3 N3 l3 => ?_
  refine PySem.W.kxs_callWith1 N3 (.head _) ?_
  have na2 : ∀ p ∈ [(qw, PySem.W.kxs_mw "ValueError.__init__" a), (h₀.objs.size, PySem.W.ks_superObj C a C)], p.1 ≠ a := fun p hp => by
    have x1 := l2 _ (List.mem_singleton.mpr rfl)
    have x2 := l3 _ (.tail _ (.head _))
    simp only [List.mem_cons, List.not_mem_nil, or_false] at hp
    rcases hp with rfl | rfl
    · exact Nat.ne_of_gt x2
    · exact Nat.ne_of_gt x1
  refine Calls.spliced_cons (Calls.Constant_str (k := j) (pos := p3) (Calls.spliced_nil ⟨PySem.W.kxs_at N3 (.head _), ?_⟩))
  refine PySem.W.kxs_call F3 KG N3 F.excBase_ValueError hX (.head _) (.tail (na2 _ (.head _)) (.tail (na2 _ (.tail _ (.head _))) (.head fun _ z => nomatch z))) (show 1 ≤ sizeLine by decide +kernel) fun t4 h4 F4 N4 l4 => ?_
  show PySem.wpAt _ _ _ _ _ _ _
  have sk' := sk
  refine PySem.ks_wpAt_execs_cons (PySem.ks_wpAt_Assign_Attr (wpAt_of_wpAny (wpAny_Name (wpAny_loadName_local sk sR F4.ns rfl (wpAny_Name (wpAny_loadName_local sk sS F4.ns rfl ?_) (by decide))) (by decide))) en3)
  have K4 : K.In h4 := KG.keeps F4.keep
  obtain ⟨nm, qn, N, bs, bm, sn, sub, ab, col, dd, k0, k1', k2, k3, k5, hC, hbm⟩ := T.cls
  have hcl : PySem.W.clsIn K C = some { name := nm, bases := bs, mro := .ref C :: bm, ns := N, qualname := qn, hasDict := true, slotNames := sn, subclasses := sub, abstract := ab, collection := col, hasDel := false } := by unfold PySem.W.clsIn; rw [hC] <;> rfl
  have ha4 : h4.get? a = some (PySem.W.excObj C t4 none .none) := (N4 (a, PySem.W.excObj C t4 none .none) (by simp)).1
  refine PySem.W.set_plain K4 (ox := PySem.W.excObj C t4 none .none) (od := none) ⟨ha4, rfl, rfl, trivial⟩ T.sa ?_
  refine PySem.HandSPX.exc_osa K4 ha4 hcl (show PySem.HandSPX.refsVE (.ref C :: bm) = true from hbm) rfl hno (fun h5 tk5 dx k5' dn dne hx hn => ?_)
  show PySem.wpAt _ _ _ _ _ _ _
  refine wpAt_of_wpAny (wpAny_execs_nil ?_)
  have keep : ∀ b o, b ≠ a → s.heap.get? b = some o → h5.get? b = some o := fun b o n e => k5' b o n (F4.keep b o (PySem.W.hideAll_get [a] e (by simp; exact n)))
  have dn' : h4.objs.size ≤ dx := dn
  have sz : s.heap.objs.size ≤ dx := by
    have h1 : s.heap.objs.size < h4.objs.size := by
      obtain ⟨oL, es, ep, hL, _⟩ := F4.ns
      exact Heap.lt_size hL
    omega
  have hnd : H dx = none := e0.hok.fresh sz
  have nd : ∀ {b : Addr} {o : Obj}, s.heap.get? b = some o → b ≠ dx := fun {b o} z => Nat.ne_of_lt (Nat.lt_of_lt_of_le (Heap.lt_size z) sz)
  have na : ∀ {b : Addr}, H b = none → b ≠ a := fun {b} n z => by
    rw [z, ha] at n
    cases n
  refine ⟨.non, upd (upd H dx (exd dx [("row", y)])) a (exo a C (some dx)), rfl, e0.bare, ?_, fun b o z => ?_, rfl, q dx hnd dne⟩
  · exact {
      keep := fun b o z n _ _ => keep b o (na n) z
      slot := fun b o z n _ _ => ⟨o.slots, keep b o (na n) z⟩
      free := fun b o z n _ => by rw [upd_ne (na n), upd_ne (nd z)]; exact n
      there := fun b o z _ => by
        by_cases hb' : b = a
        · exact ⟨_, by rw [hb']; exact hx⟩
        · exact ⟨o, keep b o hb' z⟩
      tups := fun b xs z => by rw [upd_ne (at_ne ha z exo_tup), upd_ne (ne_of_none z hnd)]; exact z
      frzs := fun b o v z => by rw [upd_ne (at_ne ha z exo_frz), upd_ne (ne_of_none z hnd)]; exact z
      tbls := fun b ps z => ⟨#[], by rw [upd_ne (at_ne ha z exo_tbl), upd_ne (ne_of_none z hnd), z]; simp⟩ }
  · by_cases hb' : b = a
    · subst hb'
      rw [upd_same] at z
      cases z
      exact exo_ok hx
    · rw [upd_ne hb'] at z
      by_cases hd : b = dx
      · subst hd
        rw [upd_same] at z
        cases z
        exact exd_ok hn (relO_put (fs := []) r1 fun g => True.intro)
      · rw [upd_ne hd] at z
        exact (e0.hok b o z).stay (fun c v hc w => keep c v (by
            rcases hc with hc | hc
            · rw [hc]
              exact hb'
            · exact at_ne ha hc exo_own) w)
          (fun c hc => by rw [upd_ne (at_ne ha hc exo_own), upd_ne (ne_of_none hc hnd)]; exact hc) (fun c xs hc => by rw [upd_ne (at_ne ha hc exo_tup), upd_ne (ne_of_none hc hnd)]; exact hc)
end

/-! ## texts of any signs: numbers, fractions, knots -/
def isDig (c : Nat) : Bool := decide (48 ≤ c) && decide (c ≤ 57)
def natB (l : List Nat) : Bool := decide (1 ≤ l.length) && decide (l.length ≤ 60) && l.all isDig && (decide (l = [48]) || !decide (l[0]? = some 48))
theorem dig_back : ∀ (k : Nat) (l : List Nat), l.length ≤ k → l ≠ [] → l.all isDig = true → (l = [48] ∨ l[0]? ≠ some 48) → ∃ n, TL.numL n = l ∧ (l ≠ [48] → 0 < n) := by
  intro k
  induction k with
  | zero => intro l hl hn; cases l with | nil => exact absurd rfl hn | cons _ _ => simp at hl
  | succ k ih =>
    intro l hl hn hd hz
    obtain ⟨m, c, rfl⟩ : ∃ m c, l = m ++ [c] := ⟨l.dropLast, l.getLast hn, (List.dropLast_concat_getLast hn).symm⟩
    rw [List.all_append, Bool.and_eq_true] at hd
    have hc : 48 ≤ c ∧ c ≤ 57 := by
      have := hd.2
      simp only [List.all_cons, List.all_nil, Bool.and_true, isDig, Bool.and_eq_true, decide_eq_true_eq] at this
      exact this
    cases m with
    | nil =>
      refine ⟨c - 48, ?_, fun h => ?_⟩
      · rw [TL.numL_lt (by omega)]
        show [48 + (c - 48)] = [c]
        congr 1
        omega
      · have : c ≠ 48 := fun z => h (by rw [z]; rfl)
        omega
    | cons x m =>
      have hx : x ≠ 48 := fun z => by
        rcases hz with z2 | z2
        · exact absurd (congrArg List.length z2) (by simp)
        · exact z2 (by rw [z]; rfl)
      obtain ⟨n, e, pos⟩ := ih (x :: m) (by simp only [List.length_append, List.length_cons, List.length_nil] at hl ⊢; omega) (by simp) hd.1 (.inr (by simpa using hx))
      have n0 := pos (fun z => hx (List.cons.inj z).1)
      refine ⟨10 * n + (c - 48), ?_, fun _ => by omega⟩
      rw [TL.numL_step (by omega), show (10 * n + (c - 48)) / 10 = n by omega, show 48 + (10 * n + (c - 48)) % 10 = c by omega, e]
theorem numL_dig (n : Nat) : (TL.numL n).all isDig = true := List.all_eq_true.mpr fun c hc => by
  have := numL_char hc
  unfold isDig
  simp only [Bool.and_eq_true, decide_eq_true_eq]
  omega
theorem numL_long {n : Nat} (h : (TL.numL n).length ≤ 60) : n < 10 ^ 60 := by
  have key : ∀ k n, (TL.numL n).length ≤ k → n < 10 ^ k := by
    intro k
    induction k with
    | zero => intro n h; have := numL_pos n; omega
    | succ k ih =>
      intro n h
      by_cases hn : n < 10
      · calc n < 10 := hn
          _ = 10 ^ 1 := rfl
          _ ≤ 10 ^ (k + 1) := Nat.pow_le_pow_right (by decide) (by omega)
      · rw [TL.numL_step (by omega), List.length_append] at h
        have := ih (n / 10) (by simpa using h)
        rw [Nat.pow_succ]
        omega
  exact key 60 n h
theorem natB_iff {l : List Nat} : natB l = true ↔ ∃ n, l = TL.numL n ∧ n < 10 ^ 60 := by
  constructor
  · intro h
    unfold natB at h
    simp only [Bool.and_eq_true, decide_eq_true_eq, Bool.or_eq_true, Bool.not_eq_true', decide_eq_false_iff_not] at h
    obtain ⟨⟨⟨h1, h2⟩, h3⟩, h4⟩ := h
    obtain ⟨n, e, _⟩ := dig_back l.length l (Nat.le_refl _) (by intro z; subst z; simp at h1) h3 h4
    exact ⟨n, e.symm, numL_long (by rw [e]; exact h2)⟩
  · rintro ⟨n, rfl, hn⟩
    unfold natB
    have h1 := numL_pos n
    have h2 := numL_len60 hn
    simp only [Bool.and_eq_true, decide_eq_true_eq, Bool.or_eq_true, Bool.not_eq_true', decide_eq_false_iff_not]
    refine ⟨⟨⟨h1, h2⟩, numL_dig n⟩, ?_⟩
    by_cases h0 : n = 0
    · subst h0
      exact .inl rfl
    · obtain ⟨c, hc, _, _, c48⟩ := numL_first n
      exact .inr (by rw [hc]; intro z; cases z; exact c48 h0 rfl)
/-! ### parts -/
def SP (c : Nat) : List Nat → List (List Nat)
  | [] => [[]]
  | x :: r => if x = c then [] :: SP c r else match SP c r with
    | [] => [[x]]
    | p :: ps => (x :: p) :: ps
theorem SP_ne (c : Nat) : ∀ l, SP c l ≠ []
  | [] => by simp [SP]
  | x :: r => by
    unfold SP
    split
    · simp
    · split <;> simp
theorem SP_spl (c : Nat) : ∀ (l acc : List Nat), TL.spl [c] 0 acc l = match SP c l with | [] => [acc] | p :: ps => (acc ++ p) :: ps
  | [], acc => by rw [TL.spl_nil]; simp [SP]
  | x :: r, acc => by
    unfold SP
    by_cases h : x = c
    · rw [if_pos h, TL.spl_hit (by subst h; simp [TL.pre])]
      have ih := SP_spl c r []
      show acc :: TL.spl [c] 0 [] r = _
      rw [ih]
      cases hs : SP c r with
      | nil => exact absurd hs (SP_ne c r)
      | cons p ps => simp
    · rw [if_neg h, TL.spl_miss (by simp [TL.pre]; exact h)]
      rw [SP_spl c r (acc ++ [x])]
      cases hs : SP c r with
      | nil => exact absurd hs (SP_ne c r)
      | cons p ps => simp
theorem split_SP {c : Nat} (h : c < 256) (l : List Nat) : Txt.split (SX.S l) (SX.S [c]) = (SP c l).map SX.S := by
  rw [SX.split_S (by simp) (sep256 h), SP_spl]
  cases hs : SP c l with
  | nil => exact absurd hs (SP_ne c l)
  | cons p ps => simp
theorem SP_len (c : Nat) : ∀ l, (SP c l).length ≤ l.length + 1 ∧ ∀ p ∈ SP c l, p.length ≤ l.length ∧ c ∉ p ∧ ∀ x ∈ p, x ∈ l
  | [] => by simp [SP]
  | x :: r => by
    obtain ⟨h1, h2⟩ := SP_len c r
    unfold SP
    by_cases h : x = c
    · rw [if_pos h]
      refine ⟨by simp only [List.length_cons]; omega, fun p hp => ?_⟩
      rcases List.mem_cons.mp hp with rfl | hp
      · simp
      · have := h2 p hp
        exact ⟨by simp only [List.length_cons]; omega, this.2.1, fun y hy => List.mem_cons_of_mem _ (this.2.2 y hy)⟩
    · rw [if_neg h]
      cases hs : SP c r with
      | nil => exact absurd hs (SP_ne c r)
      | cons q qs =>
        rw [hs] at h1 h2
        refine ⟨by simp only [List.length_cons] at *; omega, fun p hp => ?_⟩
        rcases List.mem_cons.mp hp with rfl | hp
        · have := h2 q (.head _)
          refine ⟨by simp only [List.length_cons]; omega, ?_, fun y hy => ?_⟩
          · intro z
            rcases List.mem_cons.mp z with z | z
            · exact h z.symm
            · exact this.2.1 z
          · rcases List.mem_cons.mp hy with rfl | hy
            · exact .head _
            · exact .tail _ (this.2.2 y hy)
        · have := h2 p (.tail _ hp)
          exact ⟨by simp only [List.length_cons]; omega, this.2.1, fun y hy => .tail _ (this.2.2 y hy)⟩
/-- the parts, glued -/
theorem SP_glue (c : Nat) : ∀ l, TL.joinL [c] (SP c l) = l
  | [] => by simp [SP, TL.joinL]
  | x :: r => by
    have ih := SP_glue c r
    unfold SP
    by_cases h : x = c
    · rw [if_pos h]
      cases hs : SP c r with
      | nil => exact absurd hs (SP_ne c r)
      | cons p ps =>
        rw [hs] at ih
        show [] ++ ([c] ++ TL.joinL [c] (p :: ps)) = _
        rw [ih, h]
        rfl
    · rw [if_neg h]
      cases hs : SP c r with
      | nil => exact absurd hs (SP_ne c r)
      | cons p ps =>
        rw [hs] at ih
        cases ps with
        | nil =>
          have ih : p = r := ih
          rw [ih]
          rfl
        | cons q qs =>
          have ih : p ++ ([c] ++ TL.joinL [c] (q :: qs)) = r := ih
          show (x :: p) ++ ([c] ++ TL.joinL [c] (q :: qs)) = _
          rw [← ih]
          rfl
theorem SP_one {c : Nat} {l p : List Nat} (h : SP c l = [p]) : l = p := by
  have := SP_glue c l
  rw [h] at this
  exact this.symm
theorem SP_two {c : Nat} {l p q : List Nat} (h : SP c l = [p, q]) : l = p ++ c :: q := by
  have := SP_glue c l
  rw [h] at this
  have e : p ++ ([c] ++ q) = l := this
  rw [← e]
  rfl
/-! ### fractions -/
/-- the words of a fraction without its sign -/
def fU (q : Rat) : List (List Nat) := if q.den = 1 then [TL.numL q.num.natAbs] else [TL.numL q.num.natAbs, TL.numL q.den]
def fV (q : Rat) : List Nat := if q.den = 1 then TL.numL q.num.natAbs else TL.numL q.num.natAbs ++ 47 :: TL.numL q.den
theorem fV_split (q : Rat) : Txt.split (SX.S (fV q)) (SX.S [47]) = (fU q).map SX.S := by
  have n1 : ∀ n, 47 ∉ TL.numL n := fun n => TL.numL_free (.inl (by decide))
  unfold fV fU
  split
  · rw [split_one (by decide) (n1 _)]; rfl
  · rw [split_two (by decide) (n1 _) (n1 _)]; rfl
theorem fT_neg {q : Rat} (h : q.num < 0) : fT q = 45 :: fV q := by
  unfold fT fV intL
  rw [if_pos h]
  split <;> rfl
theorem fT_pos {q : Rat} (h : ¬ q.num < 0) : fT q = fV q := by
  unfold fT fV intL
  rw [if_neg h]
theorem fU_nat {q : Rat} (h : D60 q) : ∀ p ∈ fU q, ∃ n, p = TL.numL n ∧ n < 10 ^ 60 := fun p hp => by
  unfold fU at hp
  split at hp
  · rw [List.mem_singleton.mp hp]; exact ⟨_, rfl, h.1⟩
  · rcases List.mem_cons.mp hp with rfl | hp
    · exact ⟨_, rfl, h.1⟩
    · rw [List.mem_singleton.mp hp]; exact ⟨_, rfl, h.2⟩
theorem fU_len (q : Rat) : 1 ≤ (fU q).length ∧ (fU q).length ≤ 2 := by
  unfold fU
  split <;> simp
theorem fU_0 (q : Rat) : (fU q)[0]? = some (TL.numL q.num.natAbs) := by
  unfold fU
  split <;> rfl
theorem fU_1 {q : Rat} (h : ¬ q.den = 1) : (fU q)[1]? = some (TL.numL q.den) ∧ (fU q).length = 2 := by
  unfold fU
  rw [if_neg h]
  exact ⟨rfl, rfl⟩
theorem fU_11 {q : Rat} (h : q.den = 1) : (fU q).length = 1 := by
  unfold fU
  rw [if_pos h]
  rfl
theorem fV_first (q : Rat) : (fV q)[0]? ≠ some 45 := fun z => by
  obtain ⟨c, hc, h1, h2, _⟩ := numL_first q.num.natAbs
  unfold fV at z
  split at z
  · rw [hc] at z; cases z; omega
  · rw [List.getElem?_append_left (by have := (List.getElem?_eq_some_iff.mp hc).1; omega), hc] at z
    cases z
    omega
theorem fV_len {q : Rat} (h : D60 q) : (fV q).length ≤ 122 := by
  have h1 := numL_len60 h.1
  have h2 := numL_len60 h.2
  unfold fV
  split
  · omega
  · rw [List.length_append, List.length_cons]; omega
theorem rS_txs {K : Fg} {M : Ms} {H : Hp} {p : Addr} {ys : List (List Nat)} (w : Own M H) (n : H p = none) : rS rTx K M (upd H p (.lst ((ys.map SX.S).map V.str))) (.ref p) ys := ⟨p, _, rfl, w.fresh n, upd_same, by
  rw [List.map_map]
  induction ys with
  | nil => exact .nil
  | cons y ys ih => exact .cons rfl (Prd.monoR (fun _ _ z => z) ih)⟩
theorem map_S_inj : ∀ {a b : List (List Nat)}, a.map SX.S = b.map SX.S → a = b
  | [], [], _ => rfl
  | [], _ :: _, h => by simp at h
  | _ :: _, [], h => by simp at h
  | x :: a, y :: b, h => by
    rw [List.map_cons, List.map_cons] at h
    obtain ⟨h1, h2⟩ := List.cons.inj h
    rw [SX.S_inj h1, map_S_inj h2]
theorem SP_fV (q : Rat) : SP 47 (fV q) = fU q := map_S_inj (by rw [← split_SP (by decide), fV_split])
/-- a text without its sign -/
def bare (l : List Nat) : List Nat := if l[0]? = some 45 then l.drop 1 else l
theorem bare_fT (q : Rat) : bare (fT q) = fV q ∧ ((fT q)[0]? = some 45 ↔ q.num < 0) := by
  by_cases h : q.num < 0
  · rw [fT_neg h]
    exact ⟨rfl, fun _ => h, fun _ => rfl⟩
  · rw [fT_pos h]
    have := fV_first q
    exact ⟨by unfold bare; rw [if_neg this], fun z => absurd z this, fun z => absurd z h⟩
theorem fU_inj {p q : Rat} (h : fU p = fU q) : p.num.natAbs = q.num.natAbs ∧ p.den = q.den := by
  unfold fU at h
  split at h <;> split at h
  · rename_i h1 h2
    exact ⟨TL.numL_inj (List.cons.inj h).1, h1.trans h2.symm⟩
  · exact absurd (congrArg List.length h) (by simp)
  · exact absurd (congrArg List.length h) (by simp)
  · exact ⟨TL.numL_inj (List.cons.inj h).1, TL.numL_inj (List.cons.inj (List.cons.inj h).2).1⟩
theorem fT_inj {p q : Rat} (h : fT p = fT q) : p = q := by
  obtain ⟨b1, s1⟩ := bare_fT p
  obtain ⟨b2, s2⟩ := bare_fT q
  rw [h] at b1 s1
  have e : fU p = fU q := by rw [← SP_fV, ← SP_fV, ← b1, ← b2]
  obtain ⟨e1, e2⟩ := fU_inj e
  have s : p.num < 0 ↔ q.num < 0 := s1.symm.trans s2
  exact Rat.ext (by omega) e2
open Classical in
/-- the fraction that a text stands for -/
noncomputable def fOf (l : List Nat) : Option Rat := if h : ∃ q, D60 q ∧ fT q = l then some h.choose else none
theorem fOf_some {q : Rat} {l : List Nat} (d : D60 q) (e : fT q = l) : fOf l = some q := by
  have h : ∃ q, D60 q ∧ fT q = l := ⟨q, d, e⟩
  unfold fOf
  rw [dif_pos h]
  congr 1
  exact fT_inj (h.choose_spec.2.trans e.symm)
theorem fOf_spec {q : Rat} {l : List Nat} (h : fOf l = some q) : D60 q ∧ fT q = l := by
  unfold fOf at h
  split at h
  · rename_i z
    cases h
    exact z.choose_spec
  · cases h
theorem fOf_parts {q : Rat} {l : List Nat} (h : fOf l = some q) : SP 47 (bare l) = fU q ∧ (l[0]? = some 45 ↔ q.num < 0) := by
  obtain ⟨_, e⟩ := fOf_spec h
  obtain ⟨b, s⟩ := bare_fT q
  rw [e] at b s
  rw [b]
  exact ⟨SP_fV q, s⟩
/-- its sign, its number -/
def sg (l : List Nat) (n : Nat) : Int := if l[0]? = some 45 then -(n : Int) else n
theorem sg_abs (l : List Nat) (n : Nat) : (sg l n).natAbs = n := by
  unfold sg
  split <;> omega
theorem bare_back {l m : List Nat} (h : bare l = m) : l = if l[0]? = some 45 then 45 :: m else m := by
  unfold bare at h
  split
  · rename_i z
    rw [if_pos z] at h
    cases l with
    | nil => simp at z
    | cons x r =>
      have : x = 45 := by simpa using z
      rw [this, ← h]
      rfl
  · rename_i z
    rw [if_neg z] at h
    exact h
theorem fOf_make1 {l : List Nat} {n : Nat} (hp : SP 47 (bare l) = [TL.numL n]) (hn : n < 10 ^ 60) (z : l[0]? = some 45 → n ≠ 0) : fOf l = some ((sg l n : Int) : Rat) := by
  have e1 : (((sg l n : Int) : Rat)).num = sg l n := Rat.num_intCast _
  have e2 : (((sg l n : Int) : Rat)).den = 1 := Rat.den_intCast _
  refine fOf_some ⟨by rw [e1, sg_abs]; exact hn, by rw [e2]; decide⟩ ?_
  have hb := bare_back (SP_one hp)
  unfold fT
  rw [e2, if_pos rfl, e1]
  unfold intL
  rw [sg_abs]
  by_cases h : l[0]? = some 45
  · have := z h
    rw [if_pos (by unfold sg; rw [if_pos h]; omega)]
    rw [if_pos h] at hb
    exact hb.symm
  · rw [if_neg (by unfold sg; rw [if_neg h]; omega)]
    rw [if_neg h] at hb
    exact hb.symm
theorem fOf_make2 {l : List Nat} {n d : Nat} (hp : SP 47 (bare l) = [TL.numL n, TL.numL d]) (hn : n < 10 ^ 60) (hd : d < 10 ^ 60) (d2 : 2 ≤ d) (g : Nat.gcd n d = 1) : fOf l = some ((sg l n : Rat) / ((d : Int) : Rat)) := by
  have fp := fr_parts (n := sg l n) (d := (d : Int)) (by omega) (by rw [sg_abs]; simpa using g)
  have n0 : n ≠ 0 := fun z => by
    subst z
    rw [Nat.gcd_zero_left] at g
    omega
  have e1 := fp.1
  have e2 : ((sg l n : Rat) / ((d : Int) : Rat)).den = d := by have := fp.2; omega
  refine fOf_some ⟨by rw [e1, sg_abs]; exact hn, by rw [e2]; exact hd⟩ ?_
  have hb := bare_back (SP_two hp)
  unfold fT
  rw [e2, if_neg (by omega), e1]
  unfold intL
  rw [sg_abs]
  by_cases h : l[0]? = some 45
  · rw [if_pos (by unfold sg; rw [if_pos h]; omega)]
    rw [if_pos h] at hb
    exact hb.symm
  · rw [if_neg (by unfold sg; rw [if_neg h]; omega)]
    rw [if_neg h] at hb
    exact hb.symm
theorem d60_bq {q : Rat} (h : D60 q) : BQ 200 q := by
  have h1 := h.1
  have h2 := h.2
  refine ⟨?_, ?_⟩
  · unfold Bd; omega
  · unfold Bd; omega
theorem dig_occ {c : Nat} (h : isDig c = true) : Builtin.Str.occurrences (SX.S [48, 49, 50, 51, 52, 53, 54, 55, 56, 57]) ⟨#[c]⟩ 0 (SX.S [48, 49, 50, 51, 52, 53, 54, 55, 56, 57]).length 1 = [c - 48] := by
  unfold isDig at h
  simp only [Bool.and_eq_true, decide_eq_true_eq] at h
  obtain ⟨h1, h2⟩ := h
  have : c = 48 ∨ c = 49 ∨ c = 50 ∨ c = 51 ∨ c = 52 ∨ c = 53 ∨ c = 54 ∨ c = 55 ∨ c = 56 ∨ c = 57 := by omega
  rcases this with rfl | rfl | rfl | rfl | rfl | rfl | rfl | rfl | rfl | rfl <;> decide +kernel
theorem eqv_str (a b : Str) : PyData.eqv (.str a) (.str b) = decide (a = b) := by rw [PyData.eqv, Bool.beq_eq_decide_eq]
/-- the signs of a text that the law draws -/
def Low (l : List Nat) : Prop := ∀ c ∈ l, c < 256
theorem shaped_chs {cs : List Nat} (h : Low cs) : SeqAt.shaped (.list (cs.map fun c => PyData.str ⟨#[c]⟩)) = true := by
  have h1 : PyData.canLayAll0 (cs.map fun c => PyData.str ⟨#[c]⟩) = true := by
    induction cs with
    | nil => rfl
    | cons c cs ih =>
      rw [List.map_cons, PyData.canLayAll0, ih (fun x hx => h x (.tail _ hx)), PyData.canLay0, Bool.and_true]
      have := h c (.head _)
      unfold PyData.strOk
      simp
      omega
  have h2 : PyData.depthAll (cs.map fun c => PyData.str ⟨#[c]⟩) = 0 := by
    clear h h1
    induction cs with
    | nil => rfl
    | cons c cs ih => rw [List.map_cons, PyData.depthAll, ih, PyData.depth]; rfl
  unfold SeqAt.shaped
  rw [PyData.canLay0, h1, PyData.depth, h2]
  rfl
theorem dp_chs {K : Fg} {M : Ms} {H : Hp} {vs : List V} {cs : List Nat} (h : Paired (rCh K M H) vs cs) : DpAll K H vs (cs.map fun c => PyData.str ⟨#[c]⟩) := by
  induction h with
  | nil => exact .nil
  | cons h _ ih => cases h; exact .cons (.str _) ih
theorem s_neChs {K : Fg} {M N : Ms} {H : Hp} {x y : V} {cs : List Nat} {Q : VK} (hx : rL rCh K M H x cs) (hy : rL rCh K N H y []) (low : Low cs) (q : Q (.bl (!decide (cs = []))) H) : rNeA K x y H Q := by
  obtain ⟨p, vs, rfl, z, r⟩ := hx
  obtain ⟨p2, vs2, rfl, z2, r2⟩ := hy
  cases r2
  refine .inr ⟨.list (cs.map fun c => PyData.str ⟨#[c]⟩), .list [], .lst z.sq (dp_chs r), .lst z2.sq .nil, shaped_chs low, by decide, ?_⟩
  have e : PyData.eqv (.list (cs.map fun c => PyData.str ⟨#[c]⟩)) (.list []) = decide (cs = []) := by
    cases cs with
    | nil => rw [PyData.eqv]; rfl
    | cons c cs => rw [PyData.eqv]; rfl
  rw [e]
  exact q
theorem in_dig (c : Nat) : decide (c ∈ (SX.S [48, 49, 50, 51, 52, 53, 54, 55, 56, 57]).cps.toList) = isDig c := by
  unfold isDig
  rw [Bool.eq_iff_iff]
  simp only [decide_eq_true_eq, Bool.and_eq_true, List.mem_cons, List.not_mem_nil, or_false]
  omega
theorem forS_by {j : Nat} {l : List Nat} {g : TG} {tb : TS} {D : Ends} {σ : L2.St} {H1 : Hp} (ex : σ[j]? = some (some (V.str (SX.S l)))) (Pv : Nat → L2.St → Hp → Prop) (h0 : Pv 0 σ H1)
    (hs : ∀ (i : Nat) (c : Nat) (σ : L2.St) (H : Hp) (N : L2.St → Hp → Prop), l[i]? = some c → Pv i σ H → (∀ σ' H', Pv (i + 1) σ' H' → N σ' H') → g (.str ⟨#[c]⟩) σ H fun σ2 H2 => tb { D with nx := N, ct := N, bk := D.nx } σ2 H2)
    (hd : ∀ σ H, Pv l.length σ H → D.nx σ H) : tFor (iStr (tVar j)) g tb D σ H1 := by
  have W := walk_str (z := SX.S l)
  have e : (SX.S l).cps.size = l.length := by simp
  rw [e] at W
  refine ⟨_, ex, SX.S l, rfl, ?_⟩
  refine for_it W Pv h0 (fun _ _ _ _ _ => trivial) (fun i v σ H H' hi pv y => ?_) hd
  obtain ⟨rfl, a, ha, rfl⟩ := y
  exact hs i a σ _ _ (by simpa using ha) pv fun _ _ z => z
theorem opInDK {X : Cx} (K : Fg) (hu : X.A.units + 65 < cLine) (h : X.K = K := by rfl) : OpR X (compareOp .In) (rInD K) := by subst h; exact op_inD hu
/-- list(of a text) -/
def rListTx : List V → Hp → VK → Prop := fun xs H Q => ∃ l : List Nat, xs = [.str (SX.S l)] ∧ l.length ≤ 100000 ∧ ∀ q, H q = none → Q (.ref q) (upd H q (.lst (l.map fun c => V.str ⟨#[c]⟩)))
theorem vals_getX {xs : List V} {us : List Value} (e : us.length = xs.length) (h : ∀ (j : Nat) v, us[j]? = some v → ∃ x, xs[j]? = some x ∧ L2.RelV x v) : Vals xs us := by
  induction xs generalizing us with
  | nil => rw [List.eq_nil_of_length_eq_zero e]; exact .nil
  | cons x xs ih =>
    cases us with
    | nil => simp at e
    | cons u us =>
      obtain ⟨y, ey, ry⟩ := h 0 u rfl
      cases ey
      exact .cons ry (ih (by simpa using e) fun j v z => h (j + 1) v z)
theorem callListTx {X : Cx} (hc : X.calm = true) : CallR X (.type "list") rListTx := by
  rintro pins s σ H xs us Q I r ⟨l, rfl, hl, q⟩
  obtain ⟨u, rfl, rx⟩ := r.one
  obtain ⟨t, rfl⟩ := rx
  have hsz : (SX.S l).cps.size ≤ sizeLine := by
    have : (SX.S l).cps.size = l.length := by simp
    rw [this]
    exact Nat.le_trans hl (by decide)
  refine call_list_str (hn := hsz) (I.ok.hd hc) (SX.S l) t fun h' tk acc' c' hk hS' hacc => ?_
  refine ⟨.ref s.heap.objs.size, _, I.laid (t' := tk) (o := .lst (l.map fun c => V.str ⟨#[c]⟩)) hk (Nat.le_refl _) ?_, rfl, q _ (I.hok.fresh (Nat.le_refl _))⟩
  refine ⟨by rw [List.length_map]; exact Nat.le_trans hl (by decide), acc'.toList, c', vals_getX ?_ ?_, by rw [Array.toArray_toList]; exact hS'⟩
  · rw [Array.length_toList, hacc.1, List.length_map]
    simp
  · intro j v z
    obtain ⟨c, u, e, rfl⟩ := hacc.2 j v (by simpa using z)
    refine ⟨.str ⟨#[c]⟩, ?_, u, rfl⟩
    rw [List.getElem?_map]
    have : l[j]? = some c := by simpa using e
    rw [this]
    rfl
/-- a comprehension over enumerate whose elements are drawn -/
def LcE (K : Fg) (vs0 : List V) (g : TG) (tt : TT) (te : TE) (vs : List Nat) (σ : L2.St) (H1 : Hp) (Q : VK) : Prop := ∃ a xs, vs0 = [.ref a] ∧ SqL K H1 a xs ∧ ∀ D, H1 D = none → ∃ W : Nat → Nat → Hp → Prop, (∃ m, W 0 m (upd H1 D (.lst []))) ∧ ∀ i m H, W i m H →
  ((Ite K a).stop i H ∧ Q (.ref D) H) ∨ ((Ite K a).go i H ∧ ∃ Nx : Hp → Prop, (∀ H', Nx H' → ∃ m', m' < m ∧ W (i + 1) m' H') ∧ ∀ x H', (Ite K a).yld i H x H' → g x (wipe σ vs) H' fun σ2 H2 => wipe σ2 vs = wipe σ vs ∧ tt σ2 H2 fun b H3 =>
    if b = true then te σ2 H3 fun y H4 => ∃ acc, H4 D = some (.lst acc) ∧ acc.length < sizeLine ∧ Nx (upd H4 D (.lst (acc ++ [y]))) else Nx H3)
theorem s_lcE {K : Fg} {ta : TA} {g : TG} {tt : TT} {te : TE} {vs : List Nat} {σ : L2.St} {H : Hp} {Q : VK} (h : ta σ H fun xs H1 => LcE K xs g tt te vs σ H1 Q) : tLc (iEnum K ta) g tt te vs σ H Q := h
section
variable {α β : Type} {A : Rp α} {B : Rp β} [Mono A] [Mono B] {K : Fg} {M : Ms} {g : TG} {tt : TT} {te : TE} {vs : List Nat} {σ : L2.St} {H1 : Hp} {Q : VK} {d : Addr} {l : LI} {N c : Nat}
theorem lc_drawE {x : V} {as : List α} (P : β → Prop) (hx : rL A K M H1 x as) (md : M d) (ml : M l.1) (h0 : StAt H1 d l N) (w : Own M H1) (hn : as.length < 100000)
    (hs : ∀ (i : Nat) (a : α) (v : V) (M' : Ms) (H2 : Hp) (Z : VK) (N' : Hp → Prop), as[i]? = some a → Tr M H1 M' H2 → rT2 rInt A K M' H2 v ((i : Int), a) → Own M' H2 → M' d → M' l.1 → StAt H2 d l (N + c * i) → But d l.1 H1 H2 →
      (∀ y b H4, But d l.1 H2 H4 → StAt H4 d l (N + c * i + c) → B K M' H4 y b → P b → Z y H4) → LcTurn g tt te vs σ H2 v Z N')
    (h : ∀ D bs H', But d l.1 H1 H' → StAt H' d l (N + c * as.length) → rS B K M H' (.ref D) bs → bs.length = as.length → (∀ b ∈ bs, P b) → Q (.ref D) H') : LcE K [x] g tt te vs σ H1 Q := by
  obtain ⟨a, vs', rfl, hl, hp⟩ := hx
  have el : vs'.length = as.length := Prd.len hp
  refine ⟨a, vs', rfl, hl.sq, fun D hD => ?_⟩
  obtain ⟨nd, nl, ni⟩ := h0.apart hD
  have tr : ∀ {H : Hp}, But d l.1 H1 H → Tr M H1 (mIn M D) H := fun {H} b => fun b' o e m => ⟨(b.tr md ml b' o e m).1, fun z => z.elim m fun q => by subst q; rw [hD] at e; cases e⟩
  refine lc_it (walk_enum (K := K) (a := a) (xs := vs')) (fun i H => ∃ acc bs, H D = some (.lst acc) ∧ But d l.1 H1 H ∧ StAt H d l (N + c * i) ∧ Own (mIn M D) H ∧ Paired (B K (mIn M D) H) acc bs ∧ bs.length = i ∧ ∀ b ∈ bs, P b) ?_ ?_ ?_ ?_
  · exact ⟨[], [], upd_same, But.of_sameS (Same.upd_new hD) h0, h0.same (Same.upd_new hD), w.inside (Same.upd_new hD) upd_same, .nil, rfl, fun b hb => by cases hb⟩
  · rintro i H _ ⟨acc, bs, e, b1, _⟩
    exact (hl.mono (tr b1) : LstM K (mIn M D) H a vs').sq
  · rintro i v H H' hi ⟨acc, bs, e, b1, D1, ow, p, hlb, hP⟩ ⟨T, u1, u2, rfl, hT, rfl, f1, f2⟩
    cases f1
    obtain ⟨b, hb, r⟩ := Prd.getL hp f2
    have sT : Same H (upd H T (.tup [.int (i : Nat), u2])) := Same.upd_new hT
    have eD : (upd H T (.tup [.int (i : Nat), u2])) D = some (.lst acc) := sT _ _ e
    have bT := b1.same sT
    have owT := ow.same sT
    refine hs i b _ (mIn M D) _ _ _ hb (tr bT) ⟨T, _, u2, rfl, .inl ⟨ow.fresh hT, upd_same⟩, rfl, Mono.mono (tr bT) r⟩ owT (.inl md) (.inl ml) (D1.same sT) bT fun y b' H4 b4 D4 hy hb' => ?_
    have kp : ∀ a o, H4 a = some o → a ≠ D → upd H4 D (.lst (acc ++ [y])) a = some o := fun a o q n => by rw [upd_ne n]; exact q
    have la : acc.length < sizeLine := small_line (by rw [Prd.len p, hlb]; omega)
    refine ⟨acc, b4.kp _ _ eD nd nl, la, acc ++ [y], bs ++ [b'], upd_same, (bT.trans b4).kept kp hD nd nl, (D4.kept kp nd nl ni).le (by rw [Nat.mul_succ]; omega), (Own.but b4 owT).updM, ?_, by rw [List.length_append, hlb]; rfl, ?_⟩
    · exact Prd.snoc (Mono.mono Tr.updM hy) (Prd.monoR (fun _ _ z => Mono.mono Tr.updM (Rp.but b4 (.inl md) (.inl ml) (Rp.same sT z))) p)
    · intro x hx
      rcases List.mem_append.mp hx with hx | hx
      · exact hP x hx
      · rw [List.mem_singleton.mp hx]; exact hb'
  · rintro H ⟨acc, bs, e, b1, D1, ow, p, hlb, hP⟩
    rw [el] at D1 hlb
    exact h D bs H b1 D1 ⟨D, acc, rfl, w.fresh hD, e, Prd.monoR (fun _ _ z => Mono.mono Tr.outside z) p⟩ hlb hP
end
/-! ## texts of knots, joined -/
def rKx : Rp Kn := fun _ _ _ v k => v = .str (SX.S (kT k))
instance : Mono rKx := ⟨fun _ h => h⟩
theorem kxs_strs {K : Fg} {M : Ms} {H : Hp} : ∀ {vs : List V} {ks : List Kn}, Paired (rKx K M H) vs ks → vs = ((ks.map kT).map SX.S).map V.str
  | _, _, .nil => rfl
  | _, _, .cons h t => by cases h; rw [kxs_strs t]; rfl
theorem sum_kT : ∀ (ks : List Kn), (∀ k ∈ ks, D60 k.1 ∧ D60 k.2) → (((ks.map kT).map SX.S).map (·.length)).sum ≤ 245 * ks.length
  | [], _ => Nat.le_refl _
  | k :: ks, d => by
    have ih := sum_kT ks fun x hx => d x (.tail _ hx)
    have l1 := kT_len (d k (.head _)).1 (d k (.head _)).2
    rw [List.map_cons, List.map_cons, List.map_cons, List.sum_cons, SX.S_len, List.length_cons]
    omega
theorem rows_len : ∀ (ks : List Kn), (∀ k ∈ ks, D60 k.1 ∧ D60 k.2) → (rowsT ks).length ≤ 246 * ks.length := by
  intro ks
  induction ks with
  | nil => intro _; exact Nat.le_refl _
  | cons a ks ih =>
    intro d
    have l1 := kT_len (d a (.head _)).1 (d a (.head _)).2
    have ih := ih fun k hk => d k (.tail _ hk)
    cases ks with
    | nil =>
      show (kT a).length ≤ 246 * 1
      omega
    | cons b ks =>
      have e : rowsT (a :: b :: ks) = kT a ++ ([32] ++ rowsT (b :: ks)) := rfl
      rw [e, List.length_append, List.length_append]
      simp only [List.length_cons, List.length_nil] at *
      omega
theorem fT_low (q : Rat) : Low (fT q) := fun c hc => by have := fT_char hc; omega
theorem kT_low (k : Kn) : Low (kT k) := fun c hc => by
  unfold kT at hc
  rcases List.mem_append.mp hc with h | h
  · exact fT_low _ c h
  · rcases List.mem_cons.mp h with rfl | h
    · decide
    · exact fT_low _ c h
theorem rows_low : ∀ (ks : List Kn), Low (rowsT ks)
  | [] => fun c hc => by cases hc
  | [k] => kT_low k
  | a :: b :: ks => fun c hc => by
    have e : rowsT (a :: b :: ks) = kT a ++ ([32] ++ rowsT (b :: ks)) := rfl
    rw [e] at hc
    rcases List.mem_append.mp hc with h | h
    · exact kT_low a c h
    · rcases List.mem_append.mp h with h | h
      · rw [List.mem_singleton.mp h]; decide
      · exact rows_low (b :: ks) c h
theorem s_joinX {K : Fg} {M : Ms} {H : Hp} {x : V} {ks : List Kn} {R : VK} (h : rL rKx K M H x ks) (hn : ks.length ≤ 50) (d : ∀ k ∈ ks, D60 k.1 ∧ D60 k.2) (q : R (.str (SX.S (rowsT ks))) H) : (fun (x : V) (xs : List V) (H : Hp) (Q : VK) => ∃ a p, ∃ ys : List Str, x = .str a ∧ xs = [V.ref p] ∧ (SqL K H p (ys.map V.str) ∨ SqT K H p (ys.map V.str)) ∧
      (ys.map (·.length)).sum + ys.length * a.length ≤ 16777216 ∧ Q (.str (Txt.join a ys)) H) (V.str (Str.ofString " ")) [x] H R := by
  obtain ⟨p, vs, rfl, l, r⟩ := h
  have e := kxs_strs r
  subst e
  have s := sum_kT ks d
  refine ⟨SX.S [32], p, (ks.map kT).map SX.S, by rw [tx_blank], rfl, .inl l.sq, ?_, ?_⟩
  · rw [List.length_map, List.length_map, SX.S_len]
    simp only [List.length_cons, List.length_nil]
    omega
  · rw [SX.join_S]
    exact q
/-! ## an own exception with a field: made, kept, asked -/
structure NtC (P : Program) (w : World) (K : Fg) (mg : Str → Option Value) (base : Heap) (x : Str) (C fI : Addr) : Prop where
  gP : mg x = some (.ref C)
  ox : OexC K C
  iC : PySem.W.findIn K (.ref C) "__init__" = some (some (.ref fI))
  tI : PySem.W.typeIn K (.ref fI) = some (.type "function")
  fn : ∃ fd : FuncData, FnOk P w K mg base CX0 1 fI fd ["self", "row"] (sp_ntI C K) ∧ Binds K fd ["self", "row"] []
  cE : ExcC K C
  no : PySem.W.findIn K (.ref C) "row" = some none
def tRaiseNt (C : Addr) (y : V) (E : XK) : TS := fun _ _ H => ∀ dx H', Same H H' → H' dx = some (.xd [("row", y)]) → E (.ref C) (some dx) H'
theorem ps_raiseNt {P : Program} {w : World} {K : Fg} {mg : Str → Option Value} {base : Heap} {N : List Str} {qual : Str} {scope : Scope} {f : Addr} {cd : Value} {A : Around} {outer : List Env} {s : Shared} {H : Hp} {E : XK} {x : Str} {C fI : Addr} {j : Nat} {i : Int} {p p2 pos pos2 : Pos} (X : NtC P w K mg base x C fI)
    (hr : Room 2 (cxOf (L2.CX P w) P w K mg base N qual scope f cd A outer s H E).A)
    (hg : Gl (cxOf (L2.CX P w) P w K mg base N qual scope f cd A outer s H E) x) (hdb : (x == ("__debug__" : Str)) = false := by decide) :
    PS (cxOf (L2.CX P w) P w K mg base N qual scope f cd A outer s H E) (.Raise (some (.Call (.Name x p) [.Constant (.int i) j p2] [] pos)) none pos2) (tRaiseNt C (.int i) E) := by
  obtain ⟨fd, F1, hb⟩ := X.fn
  have key := ps_raise (pos := pos2) rfl (takes_of rfl rfl rfl rfl) (pmk_oex (X := cxOf (L2.CX P w) P w K mg base N qual scope f cd A outer s H E) (p := p) (pos := pos) (dvs := []) X.ox X.iC X.tI F1 hr hb .nil C8.pass0 hg X.gP (pa_cons (e := .Constant (.int i) j p2) (es := []) pe_int pa_nil) hdb)
  refine ⟨fun pins s σ H D I h => key.run pins s σ H D I ?_⟩
  refine ⟨show 1 ≤ 1000 by decide, fun a ha => ⟨a, .int i, rfl, upd_same, fun dx hdx ne => ?_⟩⟩
  have nH : H dx = none := by rw [upd_ne ne] at hdx; exact hdx
  refine ⟨rfl, dx, [("row", .int i)], upd_same, by rw [upd_ne ne, upd_same], nH, ?_⟩
  refine h dx _ (fun b o e => ?_) upd_same
  have n1 : b ≠ dx := ne_of_none e nH
  have n2 : b ≠ a := ne_of_none e ha
  rw [upd_ne n1, del_ne n2, upd_ne n2, upd_ne n1, upd_ne n2]
  exact e
theorem pin_instD {X : Cx} {pins : List (Addr × Obj)} {σ : L2.St} {H : Hp} {s : Shared} {a D dd : Addr} {oe : Obj} {fs : List (Str × V)} (I : Inv X pins σ H s) (hm : (a, oe) ∈ X.pn) (hz : Zc (.ref D) (some dd) oe) (hf : ∃ vs, oe.data = .fields vs) (hd : H dd = some (.xd fs)) :
    ∃ (od : Obj) (mA : Str → Option Value), PySem.W.InstAt s.heap a oe D (some od) ∧ (∀ n, PySem.W.lookIn n od = some (mA n)) ∧ ∀ g, RelO (fs.lookup g) (mA g) := by
  have g := (I.pin (a, oe) (List.mem_append_left _ hm)).1
  have hx : ObjOk X.prog X.w H s.heap dd (.xd fs) := I.hok dd _ hd
  obtain ⟨mA, hns, hr⟩ := hx
  obtain ⟨od, ho, hl⟩ := lookIn_ns hns
  obtain ⟨vs, hv⟩ := hf
  exact ⟨od, mA, ⟨g, hz.1, by unfold PySem.W.notCls; rw [hv] <;> rfl, by rw [hz.2]; exact ho⟩, hl, hr⟩
/-- isinstance of a pinned exception with a field -/
def rIsPD (K : Fg) (D a dd : Addr) : List V → Hp → VK → Prop := fun xs H Q => ∃ (c : V) (b : Bool) (fs : List (Str × V)), xs = [.ref a, c] ∧ H dd = some (.xd fs) ∧ (∃ cv : Value, (∀ u, RelV c u → u = cv) ∧ PySem.W.kitOne K (.ref D) cv = some b) ∧ Q (.bl b) H
theorem call_isPD {X : Cx} {K : Fg} {a D dd : Addr} {oe : Obj} (hK : X.K = K) (C : ExcC K D) (hm : (a, oe) ∈ X.pn) (hz : Zc (.ref D) (some dd) oe) (hf : ∃ vs, oe.data = .fields vs) : CallR X (.builtin "isinstance") (rIsPD K D a dd) := by
  subst hK
  rintro pins s σ H xs us Q I r ⟨c, b, fs, rfl, hd, h, q⟩
  rcases r with _ | ⟨r1, r⟩
  rcases r with _ | ⟨r2, r⟩
  cases r
  cases r1
  obtain ⟨od, mA, J, _, _⟩ := pin_instD I hm hz hf hd
  have hcl : (PySem.W.clsIn X.K D).isSome = true := by
    obtain ⟨cd, hc, _⟩ := PySem.W.any_some C.hd
    rw [hc]; rfl
  have kx := PySem.W.kitx_exc (x := a) (ox := oe) (od := some od) hcl C.hg C.hk C.hs C.ha C.hn C.ht C.hm
  obtain ⟨cv, hcv, e⟩ := h
  cases hcv _ r2
  exact PySem.W.kia_one kx I.kIn J e (fun z => nomatch z) fun tk => ⟨.bl b, H, I.kept (t' := tk) fun _ _ z => z, rfl, q⟩
/-- its field -/
def tXfP (a dd : Addr) (n : Str) (te : TE) : TE := fun σ H Q => te σ H fun x H1 => x = .ref a ∧ ∃ (fs : List (Str × V)) (v : V), H1 dd = some (.xd fs) ∧ fs.lookup n = some v ∧ Q v H1
theorem pe_xfP {X : Cx} {K : Fg} {a C dd : Addr} {oe : Obj} {e : Expr} {te : TE} {pos : Pos} {n : Str} (hK : X.K = K) (T : ExcC K C) (hno : PySem.W.findIn K (.ref C) n = some none)
    (hm : (a, oe) ∈ X.pn) (hz : Zc (.ref C) (some dd) oe) (hf : ∃ vs, oe.data = .fields vs) (he : PE X e te) (hb : attributeBase e n X.env (eval e X.env) = eval e X.env := by rfl) :
    PE X (.Attribute e n pos) (tXfP a dd n te) := by
  subst hK
  refine ⟨fun pins s σ H Q I h => ?_⟩
  refine attr_of hb (thn (he.run pins s σ H _ I h) fun u s1 hh => ?_)
  obtain ⟨x, H1, I1, rx, ex, fs, v, ea, l, q⟩ := hh
  subst ex
  obtain rfl : u = Value.ref a := rx
  obtain ⟨od, mA, J, hl, hr⟩ := pin_instD I1 hm hz hf ea
  obtain ⟨u, hu, ru⟩ := RelO.some_of (v := v) (o := mA n) (by rw [← l]; exact hr n)
  exact HandSPX.exc_get I1.kIn J T.hg T.hk T.hs (PySem.W.findObj_own T.hd hno rfl (by rw [hl, hu])) (handed_of ru) ⟨v, H1, I1.tok _, ru, q⟩
theorem pss_or {X : Cx} {st : List Stmt} {t1 t2 : TS} (h1 : PSs X st t1) (h2 : PSs X st t2) : PSs X st (fun D σ H => t1 D σ H ∨ t2 D σ H) := ⟨fun pins s σ H D I h => h.elim (h1.run pins s σ H D I) (h2.run pins s σ H D I)⟩
theorem pss_zd {X : Cx} {st : List Stmt} {C : Addr} {cls : Value} {d : Option Addr} {t : Addr → TS} (h : ∀ dd, cls = .ref C → d = some dd → PSs X st (t dd)) : PSs X st (fun D σ H => ∃ dd, cls = .ref C ∧ d = some dd ∧ t dd D σ H) := pss_imp fun D σ H ⟨dd, h1, h2, h3⟩ => ⟨t dd, h dd h1 h2, h3⟩
theorem zd_of {cls : Value} {d : Option Addr} {oe : Obj} {C dd : Addr} (hz : Zc cls d oe) (h1 : cls = .ref C) (h2 : d = some dd) : Zc (.ref C) (some dd) oe := by subst h1 h2; exact hz
def tKeep (K : Fg) (c : Value) (i m : Nat) (ts tr : Addr → Value → Option Addr → TS) (t0 : TS) (tbE : XK → TS) : TS := fun D σ H => tbE (fun cls d H' => ∀ σ' : L2.St, σ'.length = m → wKeep K c i ts tr D cls d σ' H') { D with nx := t0 D } σ H
theorem pss_keepE {X : Cx} {i m : Nat} {n x : Str} {c : Value} {b : Stmt} {suite rest : List Stmt} {b₀ : Stmt} {np pos pos' : Pos} {tbE : XK → TS} {ts tr : Addr → Value → Option Addr → TS} {t0 : TS}
    (hs : X.stack = X.env :: X.outer) (hf : X.env.frame = some X.env.locals) (hN : X.N.Nodup) (hi : X.N[i]? = some n) (hl : X.N.length = m) (hln : X.env.kindOf n = some .local) (hc : Names X x c)
    (hb : ∀ (W : WX) (pn : List (Addr × Obj)) (xe : Value → Shared → Prop) (E : XK), Takes (X.tr pn xe) (fun c d σ H => σ.length = m → W c d σ H) → (∀ cls d (σ : L2.St) H, E cls d H → σ.length = m → W cls d σ H) → PS (X.tr pn xe) b (tbE E))
    (hsu : ∀ (a : Addr) (oe : Obj) (cls : Value) (d : Option Addr) (pn : List (Addr × Obj)), Zc cls d oe → (∃ vs, oe.data = .fields vs) → PSs (X.suite a ((a, oe) :: pn)) (b₀ :: suite) (ts a cls d))
    (h0 : PSs X rest t0)
    (hr : ∀ (a : Addr) (oe : Obj) (cls : Value) (d : Option Addr) (pn : List (Addr × Obj)), Zc cls d oe → (∃ vs, oe.data = .fields vs) → PSs (X.tr ((a, oe) :: pn) X.xe) rest (tr a cls d)) :
    PSs X (.Try [b] [.ExceptHandler (some (.Name x np)) (some n) (b₀ :: suite) pos'] [] [] pos :: rest) (tKeep X.K c i m ts tr t0 tbE) := by
  have key := pss_keep (np := np) (pos := pos) (pos' := pos') (body := [b]) (tb := fun W D σ H => ∃ Ech : XK, (∀ cls d (σ' : L2.St) H', Ech cls d H' → σ'.length = m → W cls d σ' H') ∧ tbE Ech D σ H) hs hf hN hi hln hc
    (fun W pn xe tk => pss_imp fun D σ H h => by
      obtain ⟨Ech, hW, h1⟩ := h
      exact ⟨_, pss_one (hb W pn xe Ech (by subst hl; exact takes_len tk) hW), h1⟩) hsu h0 hr
  exact ⟨fun pins s σ H D I h => key.run pins s σ H D I ⟨_, fun cls d σ' H' h1 h2 => h1 σ' h2, h⟩⟩
theorem den_abs {q : Rat} (d : D60 q) : ((q.den : Int)).natAbs < 10 ^ 60 := by
  have := d.2
  rw [Int.natAbs_natCast]
  exact this
theorem fT_one {q : Rat} (h : (q.den : Int) = 1) : fT q = intL q.num := by
  unfold fT
  rw [if_pos (by omega)]
theorem fT_two {q : Rat} (h : ¬ (q.den : Int) = 1) : fT q = intL q.num ++ ([47] ++ intL (q.den : Int)) := by
  unfold fT
  rw [if_neg (by omega), intL_nat]
  rfl
/-- a sign, many times -/
theorem foldl_rep (c : Nat) : ∀ (n : Nat) (acc : Array Nat), (List.replicate n #[c]).foldl (· ++ ·) acc = acc ++ (List.replicate n c).toArray
  | 0, acc => by simp
  | n + 1, acc => by
    rw [List.replicate_succ, List.foldl_cons, foldl_rep c n, List.replicate_succ]
    apply Array.ext'
    simp
theorem tooLong_small {n : Nat} (h : n ≤ 50000) : PySem.Builtin.Str.tooLong n = false := by
  unfold PySem.Builtin.Str.tooLong
  have : (50000 : Nat) ≤ sizeLine := by decide
  simp
  omega
def rMulTx : R2 := fun x y H Q => ∃ c n : Nat, x = .str ⟨#[c]⟩ ∧ y = .int (n : Int) ∧ 2 ≤ n ∧ n ≤ 50000 ∧ Q (.str (SX.S (List.replicate n c))) H
theorem op_mulTx {X : Cx} : OpR X (binaryOp .Mult) rMulTx := by
  rintro pins s σ H x y v u Q I rx ry ⟨c, n, rfl, rfl, h2, hn, q⟩
  obtain ⟨t, rfl⟩ := rx
  obtain ⟨t2, rfl⟩ := ry
  have hs := sizeLine_eq
  refine PySem.P.mul_str ?_ ?_ ?_ ?_
  · rw [decide_eq_false (by omega), decide_eq_false (by omega)]; rfl
  · intro _ _
    show ¬ (((1 : Nat) : Int) > (2 ^ 63 - 1) / (n : Int))
    have : (1 : Int) ≤ (2 ^ 63 - 1) / (n : Int) := (Int.le_ediv_iff_mul_le (by omega)).mpr (by omega)
    omega
  · intro _ _
    refine tooLong_small ?_
    show 1 * (n : Int).toNat ≤ 50000
    omega
  · rw [if_neg (by omega)]
    have e1 : ((n : Int) == 1 || (⟨#[c]⟩ : Str).length == 0) = false := by
      have : ((n : Int) == 1) = false := by simp; omega
      rw [this]; rfl
    rw [e1, if_neg Bool.false_ne_true]
    have e2 : (⟨(List.replicate (n : Int).toNat (⟨#[c]⟩ : Str).cps).foldl (· ++ ·) #[]⟩ : Str) = SX.S (List.replicate n c) := by
      rw [Int.toNat_natCast]
      show (⟨(List.replicate n #[c]).foldl (· ++ ·) #[]⟩ : Str) = _
      rw [foldl_rep]
      simp [SX.S]
    rw [e2]
    exact ⟨by rw [SX.S_len, List.length_replicate]; exact Nat.le_trans hn (by decide), ⟨.str _, H, I.tok _, ⟨_, rfl⟩, q⟩⟩

local macro_rules | `(tactic| walk_at "my_m") => `(tactic| first | assumption | exact Or.inl rfl | exact Or.inr rfl | exact Or.inl (by assumption) | exact Or.inl (Or.inl rfl) | exact Or.inl (Or.inr rfl))
local macro_rules | `(tactic| walk_at "my_tr") => `(tactic| first
  | assumption
  | ((with_reducible apply Own.same); (case s => assumption); (case w => walk_at "my_tr"))
  | ((with_reducible apply Own.but); (case s => assumption); (case w => walk_at "my_tr"))
  | ((with_reducible apply DrawAt.same); (case s => assumption); (case h => walk_at "my_tr"))
  | ((with_reducible apply TupM.same); (case s => assumption); (case h => walk_at "my_tr"))
  | ((with_reducible apply StAt.same); (case s => assumption); (case h => walk_at "my_tr"))
  | ((with_reducible show Own _ _); fail)
  | ((with_reducible show StAt _ _ _ _); fail)
  | ((with_reducible show DrawAt _ _ _ _); fail)
  | (refine Rp.same2 (by assumption) ?h ?i; (case h => walk_at "my_tr"); (case i => infer_instance))
  | (refine Rp.but2 (by assumption) ?hd ?hl ?h ?i; (case h => walk_at "my_tr"); (case i => infer_instance); (case hd => walk_at "my_m"); (case hl => walk_at "my_m"))
  | (refine Rp.extN2 (by assumption) ?h ?i; (case h => walk_at "my_tr"); (case i => infer_instance))
  | (refine Rp.lives2 (by assumption) ?h ?i; (case h => walk_at "my_tr"); (case i => infer_instance))
  | ((with_reducible apply Prd.same); (case s => assumption); (case hp => walk_at "my_tr"))
  | ((with_reducible apply At.same); (case s => assumption); (case h => walk_at "my_tr")))
local macro_rules | `(tactic| walk_at "my_bd") => `(tactic| first
  | assumption
  | ((with_reducible apply Bd.mul) <;> walk_at "my_bd")
  | ((with_reducible apply Bd.addM) <;> walk_at "my_bd")
  | ((with_reducible apply Bd.subM) <;> walk_at "my_bd")
  | ((with_reducible apply Bd.neg) <;> walk_at "my_bd")
  | ((with_reducible apply Bd.num) <;> assumption)
  | ((with_reducible apply Bd.den) <;> assumption)
  | exact bd64 (by decide +kernel)
  | exact bd64 (by omega))
local macro_rules | `(tactic| walk_at "my_call") => `(tactic| fail)
local macro_rules | `(tactic| walk_at "my_call") => `(tactic| ((with_reducible apply c_whole); (case h => walk_at "my_tr")))
local macro_rules | `(tactic| walk_at "my_call") => `(tactic| ((with_reducible apply c_div); (case hd => walk_at "my_ne"); (case hb => walk_at "my_bd"); (case hk => omega); (case ow => walk_at "my_tr"); intro _ _ _ _))
local macro_rules | `(tactic| walk_at "my_go1") => `(tactic| first
  | (with_reducible refine s_seq ?_)
  | (with_reducible refine s_asg ?_)
  | ((with_reducible refine s_gname ?_); dsimp only [List.set, wipe, List.map])
  | (with_reducible refine s_ret ?_)
  | ((with_reducible refine s_var (v := ?v) ?e ?_); (case e => with_unfolding_all rfl))
  | (with_reducible refine s_c ?_)
  | (with_reducible refine s_op ?_)
  | (with_reducible refine s_cons ?_)
  | (with_reducible refine s_nil ?_)
  | (with_reducible refine s_call ?_)
  | (with_reducible refine s_cb ?_)
  | (with_reducible refine s_rI0 ?_)
  | (with_reducible refine s_addI ?_)
  | ((with_reducible refine s_mulI ?e ?_); (case e => (refine cmul_of (by walk_at "my_bd") (by walk_at "my_bd") ?_; omega)))
  | (with_reducible refine s_rU ?_)
  | (with_reducible refine s_un ?_)
  | (with_reducible refine s_if ?_)
  | (with_reducible refine s_test ?_)
  | (with_reducible refine s_tB ?_)
  | (with_reducible refine s_bl ?_)
  | (with_reducible refine s_next ?_)
  | (with_reducible refine s_tup ?_)
  | (with_reducible refine s_lst ?_)
  | (with_reducible refine s_ifx ?_)
  | (with_reducible refine s_and ?_)
  | (with_reducible refine s_or ?_)
  | (with_reducible refine s_not ?_)
  | (with_reducible refine s_andV ?_)
  | (with_reducible refine s_orV ?_)
  | (with_reducible refine s_notV ?_)
  | (with_reducible refine s_drop ?_)
  | (with_reducible refine s_eqI ?_)
  | (with_reducible refine s_neI ?_)
  | (with_reducible refine s_abs ?_)
  | (with_reducible refine s_gcd ?_)
  | (with_reducible refine s_iteT ?_)
  | (with_reducible refine s_iteF ?_)
  | (with_reducible refine s_iteNF ?_)
  | ((with_reducible apply s_iteKT); (case e => walk_at "my_dec"))
  | ((with_reducible apply s_iteKF); (case e => walk_at "my_dec"))
  | ((with_reducible apply s_iteNKT); (case e => walk_at "my_dec"))
  | ((with_reducible apply s_iteNKF); (case e => walk_at "my_dec"))
  | (with_reducible refine s_iteNT ?_)
  | ((with_reducible apply s_ixTO); (case h => walk_at "my_tr"); (case e => first | exact atI0 | exact atI1))
  | ((with_reducible apply s_fr0); (case e => walk_at "my_tr"))
  | ((with_reducible apply s_fr1); (case e => walk_at "my_tr"))
  | ((with_reducible apply s_t20); (case e => walk_at "my_tr"); intro _ _)
  | ((with_reducible apply s_t21); (case e => walk_at "my_tr"); intro _ _)
  | ((with_reducible apply s_isiT2); (case h => walk_at "my_tr"); (case e => walk_at "my_kb"))
  | ((with_reducible apply s_lenT2); (case h => walk_at "my_tr"))
  | (with_reducible refine s_isNB ?_)
  | (with_reducible refine s_isB ?_)
  | (with_reducible refine s_lcR1 ?_)
  | (with_reducible refine s_lcR2 ?_)
  | (with_reducible refine s_rng2a ?_)
  | (with_reducible refine s_star ?_)
  | (with_reducible refine s_meth ?_)
  | (with_reducible refine s_fldR ?_)
  | (with_reducible refine s_fldW ?_)
  | (with_reducible refine s_make ?_)
  | ((with_reducible apply s_methT); (case h => walk_at "my_tr"); (case hm => exact ⟨by decide +kernel, by decide +kernel⟩))
  | ((with_reducible apply s_fldK); (case T => assumption); (case h => walk_at "my_tr"); intro _ _)
  | ((with_reducible apply s_fldP); (case T => assumption); (case h => walk_at "my_tr"); intro _ _)
  | ((with_reducible apply s_most); (case T => assumption))
  | ((with_reducible apply s_gT2); (case h => walk_at "my_tr"); intro _ _ _ _)
  | ((with_reducible refine s_divI ?e ?_); (case e => (refine cdiv_of ?_ (by walk_at "my_bd") ?_ <;> omega)))
  | (with_reducible refine s_min ?_)
  | (with_reducible refine s_max ?_)
  | (with_reducible refine s_intI ?_)
  | (with_reducible refine s_intB ?_)
  | (with_reducible refine s_lc ?_)
  | ((with_reducible apply s_len); (case h => walk_at "my_tr"))
  | (with_reducible refine s_lct ?_)
  | (with_reducible refine s_yes ?_)
  | ((with_reducible refine s_wipe ?e ?_); (case e => rfl))
  | (with_reducible refine s_dget ?_)
  | (with_reducible refine s_dput ?_)
  | (with_reducible refine s_bm ?_)
  | (with_reducible refine s_bm0 ?_)
  | (with_reducible refine s_par ?_)
  | (with_reducible refine s_forR1 ?_)
  | (with_reducible refine s_forZ ?_)
  | (with_reducible refine s_forI ?_)
  | (with_reducible refine s_forE ?_)
  | (with_reducible refine s_lcZ ?_)
  | (with_reducible refine s_slice ?_)
  | (with_reducible refine s_partN ?_)
  | (with_reducible refine s_part ?_)
  | (with_reducible refine s_partI ?_)
  | ((with_reducible apply s_cutL2); (case h => walk_at "my_tr"); (case w => walk_at "my_tr"); (case i => infer_instance); intro _ _ _ _)
  | (with_reducible refine s_forR2 ?_)
  | (with_reducible refine s_rng1 ?_)
  | ((with_reducible apply s_isiI); (case e => walk_at "my_kb"))
  | ((with_reducible apply s_isiB); (case e => walk_at "my_kb"))
  | ((with_reducible apply s_isiFr); (case h => walk_at "my_tr"); (case e => walk_at "my_kb"))
  | ((with_reducible apply s_isiL); (case h => walk_at "my_tr"); (case e => walk_at "my_kb"))
  | ((with_reducible apply s_isiO); (case h => walk_at "my_tr"); (case e => first | exact kb_oi _ | exact kb_ob _ | exact kb_ot _ | exact kb_ol _))
  | ((with_reducible apply s_lenOT); (case h => walk_at "my_tr"))
  | ((with_reducible apply s_lenOL); (case h => walk_at "my_tr"))
  | (with_reducible refine s_gcons ?_)
  | (with_reducible refine s_gnil ?_)
  | ((with_reducible apply s_lenFr); (case h => walk_at "my_tr"))
  | (with_reducible refine s_eqB ?_)
  | (with_reducible refine s_neB ?_)
  | ((with_reducible apply s_eqBr); (case h1 => walk_at "my_tr"); (case h2 => walk_at "my_tr"); (case ow => walk_at "my_tr"); intro _ _)
  | ((with_reducible apply s_neBr); (case h1 => walk_at "my_tr"); (case h2 => walk_at "my_tr"); (case ow => walk_at "my_tr"); intro _ _)
  | (with_reducible refine s_eqBl ?_)
  | (with_reducible refine s_neBl ?_)
  | ((with_reducible apply s_eqKs); (case ha => walk_at "my_tr"); (case hb => walk_at "my_tr"))
  | ((with_reducible apply s_neKs); (case ha => walk_at "my_tr"); (case hb => walk_at "my_tr"))
  | ((with_reducible apply s_eqFr); (case ha => walk_at "my_tr"); (case hb => walk_at "my_tr"))
  | ((with_reducible apply s_neFr); (case ha => walk_at "my_tr"); (case hb => walk_at "my_tr"))
  | ((with_reducible apply s_eqLFr); (case ha => walk_at "my_tr"); (case hb => walk_at "my_tr"))
  | ((with_reducible apply s_neLFr); (case ha => walk_at "my_tr"); (case hb => walk_at "my_tr"))
  | (with_reducible refine s_par3 ?_)
  | ((with_reducible refine s_ex2 ?_); dsimp only [List.set, wipe, List.map])
  | ((with_reducible refine s_ex3 ?_); dsimp only [List.set, wipe, List.map])
  | ((with_reducible refine s_modI ?e ?_); (case e => walk_at "my_ne"))
  | ((with_reducible refine s_powI ?e ?_); (case e => walk_at "my_pow"); (try simp only [Int.reduceToNat, Int.reducePow, Int.reduceAdd, Int.reduceMul]))
  | (with_reducible refine s_isN0 ?_)
  | (with_reducible refine s_isNi ?_)
  | (with_reducible refine s_isNr ?_)
  | (with_reducible refine s_notN0 ?_)
  | (with_reducible refine s_notNi ?_)
  | (with_reducible refine s_notNr ?_)
  | (with_reducible refine s_callKw ?_)
  | walk_at "my_call"
  | fail)
local macro_rules | `(tactic| walk_at "my_pow") => `(tactic| first | (exact ⟨by decide, by decide, by decide⟩) | (refine ⟨by decide, by decide, ?_⟩; omega))
local macro_rules | `(tactic| walk_at "my_go") => `(tactic| repeat' walk_at "my_go1")
local macro_rules | `(tactic| walk_at "my_sp") => `(tactic| first
  | (refine s_ite ?_ ?_ <;> intro _)
  | (refine s_iteN ?_ ?_ <;> intro _)
  | (refine s_iteB ?_ ?_ <;> intro _))
local macro_rules | `(tactic| walk_at "my_ne") => `(tactic| first | assumption | omega | decide)
local macro_rules | `(tactic| walk_at "my_side") => `(tactic| first | exact trivial | assumption)
local macro_rules | `(tactic| walk_at "my_bq") => `(tactic| first
  | assumption
  | ((with_reducible apply BQ.add) <;> walk_at "my_bq")
  | ((with_reducible apply BQ.sub) <;> walk_at "my_bq")
  | ((with_reducible apply BQ.mul) <;> walk_at "my_bq")
  | ((with_reducible apply BQ.neg) <;> walk_at "my_bq"))
local macro_rules | `(tactic| walk_at "my_kb") => `(tactic| first | exact kb_ii | exact kb_ib | exact kb_it | exact kb_il | exact kb_bi | exact kb_bb | exact kb_bt | exact kb_bl | exact kb_ti | exact kb_tb | exact kb_tt | exact kb_tl | exact kb_li | exact kb_lb | exact kb_lt | exact kb_ll | exact kb_si | exact kb_sb | exact kb_st | exact kb_sl | exact kb_ni | exact kb_nb | exact kb_nt | exact kb_nl | exact kb_di | exact kb_db | exact kb_dt | exact kb_dl)
local macro_rules | `(tactic| walk_at "my_dec") => `(tactic| first | assumption | exact rfl | decide | omega)
local macro_rules | `(tactic| walk_at "my_o") => `(tactic| first | exact OA.int _ | exact OA.bl _ | exact OA.non | exact OA.str _ | (show rOb _ _ _ _ _; walk_at "my_tr"))
local macro_rules | `(tactic| walk_at "my_os") => `(tactic| first | exact Paired.nil | (apply Paired.cons; (focus walk_at "my_o"); walk_at "my_os"))
local macro_rules | `(tactic| walk_at "my_new") => `(tactic| first
  | ((with_reducible apply s_newTO); (case K => assumption); (case w => walk_at "my_tr"); (case hl => exact len_ok (by simp)); (case hp => walk_at "my_os"); intro _ _ _ _)
  | ((with_reducible apply s_newLO); (case K => assumption); (case w => walk_at "my_tr"); (case hl => exact len_ok (by simp)); (case hp => walk_at "my_os"); intro _ _ _ _ _)
  | ((with_reducible apply s_dnewO); (case K => assumption); (case w => walk_at "my_tr"); intro _ _ _ _))
local macro_rules | `(tactic| walk_at "my_same") => `(tactic| first | assumption | exact Same.refl _ | ((with_reducible apply L2.Same.trans); (case b => assumption); (case a => walk_at "my_same")))
local macro_rules | `(tactic| walk_at "my_gom") => `(tactic| repeat' (first | (with_reducible refine mark_if ?_) | walk_at "my_go1"))

def topS (i : Nat) : Stmt := PySem.Challenge.pw_handedpast_k85_table_texts_spoilt.main.body.getD i (.Pass ⟨0, 0, 0, 0⟩)
abbrev s__law_begun : Stmt := topS 35
theorem sc__law_begun : FnScope ["script", "large", "cell"] ["script"] (defScope s__law_begun) := ⟨rfl, rfl, rfl, by decide +kernel, rfl, by decide +kernel, by decide +kernel⟩
theorem st__law_begun {x0 : V} : L2.start ["script", "large", "cell"] [x0] = [some x0, none, none] := rfl

def sp_begun (K : Fg) : Sp := fun vs H Q _ => ∃ (a : Addr) (ns : List Int), vs = [.ref a] ∧ SqL K H a (ns.map V.int) ∧ ns.length ≤ 63 ∧ ∀ d (l : LI) H', Same H H' → H d = none → H l.1 = none → StAt H' d l 0 → Q (.ref d) H'
theorem c_begun {K : Fg} {H : Hp} {Q : VK} {E : XK} {a : Addr} {ns : List Int} (hs : SqL K H a (ns.map V.int)) (hl : ns.length ≤ 63) (h : ∀ d (l : LI) H', Same H H' → H d = none → H l.1 = none → StAt H' d l 0 → Q (.ref d) H') :
    sp_begun K ([.ref a] ++ []) H Q E := ⟨a, ns, rfl, hs, hl, h⟩
theorem pow18 : (10 : Int) ^ (18 : Int).toNat = 1000000000000000000 := by decide +kernel
section
variable {P : Program} {w : World} {K : PySem.W.Frag} {mg : Str → Option Value} {base : Heap}
theorem ok__law_begun {f : Addr} {fd : FuncData} (F : Fun K "_law_begun" "_law_begun" s__law_begun f fd) (z_abs : mg "abs" = none) : FnOk P w K mg base CX0 1 f fd ["script"] (sp_begun K) := by
  refine F.ok (k := 0) sc__law_begun (fun vs H Q E h => ?_) (fun cdv A outer s H vs Q E hr h => ?_)
  · obtain ⟨a, ns, rfl, hs, hl, q⟩ := h; rfl
  · obtain ⟨a, ns, rfl, hs, hl, q⟩ := h
    refine ⟨_, (pss_cons (ps_setLc (i := 1) (own := [("cell", 2)]) rfl sc__law_begun.nd rfl rfl (sw_true rfl rfl rfl (by decide +kernel)) (piListK K (pv 0)) (blkOk_by (own := [("cell", 2)]) (N := ["script", "large", "cell"]) (sc := defScope s__law_begun) (by decide +kernel)) (fun _ _ _ _ _ => (pg_name (i := 2) sc__law_begun.nd rfl (by first | exact Or.inl rfl | exact Or.inr rfl))) (fun _ _ _ _ _ => (pts_one (pt_cmpR op_ge (pe_callB callAbs (by rfl) z_abs (by decide +kernel) (pa_cons (pv 2) pa_nil)) (pe_op op_pow pe_int pe_int) (nomark _)))) (fun _ _ _ _ _ => (pe_op op_sub (pe_callB callAbs (by rfl) z_abs (by decide +kernel) (pa_cons (pv 2) pa_nil)) (pe_op op_pow pe_int pe_int))))
      (pss_one (ps_ret (pe_disp (pps_cons pe_str (pv 1) (pps_cons pe_str (pe_lc (own := [("cell", 2)]) rfl sc__law_begun.nd (piListK K (pv 0)) (blkOk_by (own := [("cell", 2)]) (N := ["script", "large", "cell"]) (sc := defScope s__law_begun) (by decide +kernel)) (fun _ _ _ _ _ => (pg_name (i := 2) sc__law_begun.nd rfl (by first | exact Or.inl rfl | exact Or.inr rfl))) (fun _ _ _ _ _ => pts_nil) (fun _ _ _ _ _ => (pe_op op_modN (pe_callB callAbs (by rfl) z_abs (by decide +kernel) (pa_cons (pv 2) pa_nil)) pe_int))) (pps_cons pe_str pe_int (pps_cons pe_str pe_int pps_nil)))) (by rfl) (by rfl) (fun z => by cases z) (by decide))))), ?_⟩
    rw [st__law_begun]
    try simp only [cxK, cxK2]

    have M0 : Own (fun _ => False) H := fun _ z => z.elim
    have rs : rL rInt K (fun _ => False) H (.ref a) ns := ⟨a, _, rfl, hs.elim (fun z => .inl ⟨fun z => z, z⟩) .inr, prd_ints ns⟩
    walk_at "my_go"
    refine lc_map (A := rInt) (B := rInt) (M := fun _ => False) ns (fun i => decide (1000000000000000000 ≤ (i.natAbs : Int))) (fun i => (i.natAbs : Int) - 1000000000000000000) rs M0 (by omega) ?_ ?_
    · rintro i b v M' H2 Z N hi ht hw rfl hZ hN
      walk_at "my_go"
      walk_at "my_sp"
      · walk_at "my_go"
        exact hZ (decide_eq_true (by assumption)) _ _ (Same.refl _) rfl
      · exact hN (decide_eq_false (by assumption)) _ (Same.refl _)
    intro l lvs H1 fl s1 el pl r1
    have ev := ints_prd pl
    subst ev
    walk_at "my_go"
    intro d hd
    show tPairs _ _ _ _
    unfold tPairs
    walk_at "my_go"
    unfold tPairs
    walk_at "my_go"
    have s2 : Same H1 (upd H1 d (.dK [])) := Same.upd_new hd
    refine lc_map (A := rInt) (B := rInt) (M := fun _ => False) ns (fun _ => true) (fun c => (c.natAbs : Int).fmod 2147483629) (Rp.same s2 (Rp.same s1 rs)) (fun _ z => z.elim) (by omega) ?_ ?_
    · rintro i b v M' H2 Z N hi ht hw rfl hZ hN
      walk_at "my_go"
      exact hZ rfl _ _ (Same.refl _) rfl
    intro i ivs H3 fi s3 ei pi r3
    have ev := ints_prd pi
    subst ev
    walk_at "my_go"
    unfold tPairs
    walk_at "my_go"
    unfold tPairs
    walk_at "my_go"
    unfold tPairs
    have hd3 : H3 d = some (.dK []) := s3 _ _ upd_same
    refine ⟨hd3, stK l i 0 0, rfl, (by show 4 ≤ 15; decide), ?_⟩
    rw [merge_st]
    have nd : H d = none := s1.free hd
    have h1i : H1 i = none := s2.free fi
    have ld : l ≠ d := ne_of_none el hd
    have di : i ≠ d := fun z => by subst z; rw [upd_same] at fi; cases fi
    have li : i ≠ l := (ne_of_none el h1i).symm
    refine q d (l, i) _ (Same.into (Same.trans (Same.trans s1 s2) s3) nd) nd fl ⟨_, _, 0, 0, upd_same, by rw [upd_ne ld]; exact s3 _ _ (s2 _ _ el), by rw [upd_ne di]; exact ei, li, ?_, ?_, ?_, Int.le_refl _, Int.le_refl _, Int.le_refl _⟩
    · intro y hy
      obtain ⟨z, hz, rfl⟩ := List.mem_map.mp hy
      have := of_decide_eq_true (List.mem_filter.mp hz).2
      omega
    · rw [List.length_map]
      refine Nat.lt_of_le_of_lt (List.length_filter_le _ _) ?_
      omega

    · rw [List.length_map]
      refine Nat.lt_of_le_of_lt (List.length_filter_le _ _) ?_
      omega
end
abbrev s__law_mixed : Stmt := topS 36
theorem sc__law_mixed : FnScope ["state", "turn", "found", "prime", "blend", "cell"] ["state"] (defScope s__law_mixed) := ⟨rfl, rfl, rfl, by decide +kernel, rfl, by decide +kernel, by decide +kernel⟩
theorem st__law_mixed {x0 : V} : L2.start ["state", "turn", "found", "prime", "blend", "cell"] [x0] = [some x0, none, none, none, none, none] := rfl

def sp_mixed (K : Fg) : Sp := fun vs H Q _ => ∃ (d : Addr) (l : LI) (N : Nat), vs = [.ref d] ∧ StAt H d l N ∧ N < 1000000000 ∧ ∀ r H', But d l.1 H H' → StAt H' d l (N + 1) → 0 ≤ r → Q (.int r) H'
theorem c_mixed {K : Fg} {H : Hp} {Q : VK} {E : XK} {d : Addr} {l : LI} {N : Nat} (hd : StAt H d l N) (hN : N < 1000000000) (h : ∀ r H', But d l.1 H H' → StAt H' d l (N + 1) → 0 ≤ r → Q (.int r) H') :
    sp_mixed K ([.ref d] ++ []) H Q E := ⟨d, l, N, rfl, hd, hN, h⟩
section
variable {P : Program} {w : World} {K : PySem.W.Frag} {mg : Str → Option Value} {base : Heap}
theorem ok__law_mixed {f : Addr} {fd : FuncData} (F : Fun K "_law_mixed" "_law_mixed" s__law_mixed f fd)  : FnOk P w K mg base CX0 1 f fd ["state"] (sp_mixed K) := by
  refine F.ok (k := 0) sc__law_mixed (fun vs H Q E h => ?_) (fun cdv A outer s H vs Q E hr h => ?_)
  · obtain ⟨d, l, N, rfl, D0, hN, q⟩ := h; rfl
  · obtain ⟨d, l, N, rfl, D0, hN, q⟩ := h
    refine ⟨_, (pss_cons (ps_set (i := 1) sc__law_mixed.nd rfl (by first | exact Or.inl rfl | exact Or.inr rfl) (pe_op (opAddK K) (pe_dget (hu_of hr) (pv 0) pe_str (fun _ _ => rfl)) pe_int))
      (pss_cons (ps_dput (hu_of hr) (pv 0) pe_str (pv 1) rfl)
      (pss_cons (ps_set (i := 2) sc__law_mixed.nd rfl (by first | exact Or.inl rfl | exact Or.inr rfl) pe_int)
      (pss_cons (ps_for PassesOwn.never rfl (piListK K (pe_lst (pa_cons pe_int (pa_cons pe_int (pa_cons pe_int (pa_cons pe_int pa_nil)))))) (pg_name (i := 3) sc__law_mixed.nd rfl (by first | exact Or.inl rfl | exact Or.inr rfl)) (pss_cons (ps_set (i := 4) sc__law_mixed.nd rfl (by first | exact Or.inl rfl | exact Or.inr rfl) (pe_op (opAddK K) (pe_op opMul pe_int (pv 1)) (pe_op opDiv (pv 3) pe_int)))
      (pss_cons (ps_for PassesOwn.never rfl (piListK K (pe_dget (hu_of hr) (pv 0) pe_str (fun _ _ => rfl))) (pg_name (i := 5) sc__law_mixed.nd rfl (by first | exact Or.inl rfl | exact Or.inr rfl)) (pss_one (ps_set (i := 4) sc__law_mixed.nd rfl (by first | exact Or.inl rfl | exact Or.inr rfl) (pe_op op_modN (pe_op (opAddK K) (pe_op (opAddK K) (pe_op opMul (pv 4) pe_int) (pv 5)) (pv 1)) (pv 3)))))
      (pss_one (ps_set (i := 2) sc__law_mixed.nd rfl (by first | exact Or.inl rfl | exact Or.inr rfl) (pe_op (opAddK K) (pe_op opMul (pv 2) pe_int) (pe_op op_modN (pe_op op_pow (pv 4) pe_int) (pv 3))))))))
      (pss_one (ps_ret (pv 2))))))), ?_⟩
    rw [st__law_mixed]
    try simp only [cxK, cxK2]

    obtain ⟨xs, ls, x, t, hd, hl, hi, ne, pl, nx, nl, x0, t0, tN⟩ := D0.ex
    obtain ⟨l, i⟩ := l
    have dl : d ≠ l := ne_of hd hl (by intro z; cases z)
    have di : d ≠ i := ne_of hd hi (by intro z; cases z)
    walk_at "my_go"
    refine s_getTurnS hd ?_
    walk_at "my_go"
    refine s_putTurnS hd ?_
    have hd1 : (upd H d (.dK (stK l i x (t + 1)))) d = some (.dK (stK l i x (t + 1))) := upd_same
    have b1 : But d l H (upd H d (.dK (stK l i x (t + 1)))) := ⟨fun b o e n _ => by rw [upd_ne n]; exact e, by rw [hd1]; simp, by rw [upd_ne dl.symm, hl]; simp⟩
    have D1 : StAt (upd H d (.dK (stK l i x (t + 1)))) d (l, i) (N + 1) := ⟨xs, ls, x, t + 1, hd1, by rw [upd_ne dl.symm]; exact hl, by rw [upd_ne di.symm]; exact hi, ne, pl, nx, nl, x0, by omega, by omega⟩
    have hi1 : (upd H d (.dK (stK l i x (t + 1)))) i = some (.lst (xs.map V.int)) := by rw [upd_ne di.symm]; exact hi
    generalize upd H d (.dK (stK l i x (t + 1))) = H1 at *
    walk_at "my_go"
    refine s_newS (A := rInt) (K := K) (M := fun _ => False) (as := [2147483629, 2147483587, 2147483579, 2147483563]) (fun _ z => z.elim) (len_ok (by simp)) (.cons rfl (.cons rfl (.cons rfl (.cons rfl .nil)))) ?_
    intro v2 H2 s2 r2
    have hd2 := s2 _ _ hd1
    have hi2 := s2 _ _ hi1
    have rc : rL rInt K (fun _ => False) H2 (.ref i) xs := rL_ints hi2
    refine forI_by (A := rInt) (M := fun _ => False) r2.l (fun j σ H3 => H3 = H2 ∧ ∃ (f : Int) (o2 o3 o4 : Option V), σ = [some (.ref d), some (.int (t + 1)), some (.int f), o2, o3, o4] ∧ 0 ≤ f ∧ Bd (40 * j + 1) f) ?_ ?_ ?_ ?_
    · exact ⟨rfl, 0, _, _, _, rfl, Int.le_refl _, by unfold Bd; decide⟩
    · rintro j σ H3 ⟨rfl, _⟩
      exact r2.l
    · rintro j p v σ H3 Nx hj ⟨rfl, f, o2, o3, o4, rfl, f0, bf⟩ rfl hk
      have hp : 2147483563 ≤ p ∧ p ≤ 2147483629 := by
        have := List.mem_of_getElem? hj
        simp only [List.mem_cons, List.not_mem_nil, or_false] at this
        omega
      have hj6 : j < 4 := by
        have := (List.getElem?_eq_some_iff.mp hj).1
        simpa using this
      walk_at "my_go"
      have e7 : p.fdiv 7 = p / 7 := Int.fdiv_eq_ediv_of_nonneg _ (by decide)
      rw [e7]
      have p7 : 0 ≤ p / 7 ∧ p / 7 ≤ p := by omega
      generalize p / 7 = p7v at *
      refine s_getCells hd2 ?_
      refine forI_by (A := rInt) (M := fun _ => False) rc (fun m σ H4 => H4 = H3 ∧ ∃ (b : Int) (o4 : Option V), σ = [some (.ref d), some (.int (t + 1)), some (.int f), some (.int p), some (.int b), o4] ∧ 0 ≤ b ∧ b < 1125899906842624) ⟨rfl, _, _, rfl, by omega, by omega⟩ (fun m σ H4 h => by rw [h.1]; exact rc) ?_ ?_
      · rintro m c v σ H4 N4 hm ⟨rfl, b, o4, rfl, b0, b1'⟩ rfl hk4
        have bb : Bd 60 b := by unfold Bd; omega
        walk_at "my_go"
        have m1 : (b * 48271 + c + (t + 1)).fmod p < p := Int.fmod_lt_of_pos _ (by omega)
        have m0 : 0 ≤ (b * 48271 + c + (t + 1)).fmod p := Int.fmod_nonneg_of_pos _ (by omega)
        exact hk4 _ _ ⟨rfl, _, _, rfl, m0, by omega⟩
      · rintro σ H4 ⟨rfl, b, o4, rfl, b0, b1'⟩
        walk_at "my_go"
        have m1 : (b ^ 5).fmod p < p := Int.fmod_lt_of_pos _ (by omega)
        have m0 : 0 ≤ (b ^ 5).fmod p := Int.fmod_nonneg_of_pos _ (by omega)
        generalize (b ^ 5).fmod p = g at *
        have bp : Bd 31 2147483647 := by unfold Bd; decide
        have bg : Bd 32 g := by unfold Bd; omega
        refine hk _ _ ⟨rfl, _, _, _, _, rfl, by have := Int.mul_nonneg f0 (show (0 : Int) ≤ 2147483647 by decide); omega, ?_⟩
        exact ((bf.mul bp).addM bg).mono (by omega)
    · rintro σ H3 ⟨rfl, f, o2, o3, o4, rfl, f0, bf⟩
      walk_at "my_go"
      exact q _ _ (b1.same s2) (D1.same s2) f0
end
abbrev s__law_draw : Stmt := topS 37
theorem sc__law_draw : FnScope ["state", "size", "found"] ["state", "size"] (defScope s__law_draw) := ⟨rfl, rfl, rfl, by decide +kernel, rfl, by decide +kernel, by decide +kernel⟩
theorem st__law_draw {x0 x1 : V} : L2.start ["state", "size", "found"] [x0, x1] = [some x0, some x1, none] := rfl

def sp_takeS (K : Fg) : Sp := fun vs H Q _ => ∃ (d : Addr) (l : LI) (N : Nat) (size : Int), vs = [.ref d, .int size] ∧ StAt H d l N ∧ 0 < size ∧ Bd 8000 size ∧ N < 999999990 ∧ ∀ r H', But d l.1 H H' → StAt H' d l (N + 1) → 0 ≤ r → r < size → Q (.int r) H'
theorem c_takeS {K : Fg} {H : Hp} {Q : VK} {E : XK} {d : Addr} {l : LI} {N : Nat} {size : Int} (hd : StAt H d l N) (h0 : 0 < size) (hb : Bd 8000 size) (hN : N < 999999990) (h : ∀ r H', But d l.1 H H' → StAt H' d l (N + 1) → 0 ≤ r → r < size → Q (.int r) H') :
    sp_takeS K ([.ref d, .int size] ++ []) H Q E := ⟨d, l, N, size, rfl, hd, h0, hb, hN, h⟩
theorem bd8k {i : Int} (h : i.natAbs < 2 ^ 64) : Bd 8000 i := Bd.mono (j := 64) h (by omega)
local macro_rules | `(tactic| walk_at "my_call") => `(tactic| ((with_reducible apply c_takeS); (case hd => walk_at "my_tr"); (case h0 => first | decide | omega); (case hb => first | exact bd8k (by decide +kernel) | exact bd8k (by omega)); (case hN => omega); intro _ _ _ _ _ _))
section
variable {P : Program} {w : World} {K : PySem.W.Frag} {mg : Str → Option Value} {base : Heap}
theorem ok__law_draw {f : Addr} {fd : FuncData} (F : Fun K "_law_draw" "_law_draw" s__law_draw f fd) (G__law_mixed : Cal P w K mg base CX0 1 "_law_mixed" ["state"] [] (sp_mixed K)) : FnOk P w K mg base CX0 2 f fd ["state", "size"] (sp_takeS K) := by
  refine F.ok (k := 1) sc__law_draw (fun vs H Q E h => ?_) (fun cdv A outer s H vs Q E hr h => ?_)
  · obtain ⟨d, l, N, size, rfl, D0, h0, hb, hN, q⟩ := h; rfl
  · obtain ⟨d, l, N, size, rfl, D0, h0, hb, hN, q⟩ := h
    refine ⟨_, (pss_cons (ps_if (PW.pt (pw_and (pt_cmpR (opEqK K hr.units) (pe_dget (hu_of hr) (pv 0) pe_str (fun _ _ => rfl)) pe_int (nomark _)) (pw_and1 (pt_cmpR (opNeK K hr.units) (pe_dget (hu_of hr) (pv 0) pe_str (fun _ _ => rfl)) (pe_lst pa_nil) (nomark _))))) (pss_one (ps_dput (hu_of hr) (pv 0) pe_str (pe_bm PySem.F.plainAttrs_list PySem.F.slot_list_pop PySem.F.type_list_pop mt_popAt (pe_dget (hu_of hr) (pv 0) pe_str (fun _ _ => rfl)) (pa_cons pe_int pa_nil)) rfl)) (pss_one (ps_if (pt_cmpR (opEqK K hr.units) (pe_dget (hu_of hr) (pv 0) pe_str (fun _ _ => rfl)) pe_int (nomark _)) (pss_one (ps_dput (hu_of hr) (pv 0) pe_str (pe_cal G__law_mixed (hr.mono (by decide)) (by rfl) pass0 (pa_cons (pv 0) pa_nil)) rfl)) pss_nil)))
      (pss_cons (ps_set (i := 2) sc__law_draw.nd rfl (by first | exact Or.inl rfl | exact Or.inr rfl) (pe_op op_modN (pe_dget (hu_of hr) (pv 0) pe_str (fun _ _ => rfl)) (pv 1)))
      (pss_cons (ps_dput (hu_of hr) (pv 0) pe_str (pe_op opDiv (pe_dget (hu_of hr) (pv 0) pe_str (fun _ _ => rfl)) (pv 1)) rfl)
      (pss_one (ps_ret (pv 2)))))), ?_⟩
    rw [st__law_draw]
    try simp only [cxK, cxK2]

    have bs : Bd 8000 size := hb
    refine s_cut (fun σ' H' => σ' = [some (.ref d), some (.int size), none] ∧ But d l.1 H H' ∧ StAt H' d l (N + 1)) ?_ ?_
    · rintro σ H2 ⟨rfl, b2, D2⟩
      obtain ⟨xs, ls, x, t, hd2, hl2, hi2, ne, pl, nx, nl, x0, t0, tN⟩ := D2.ex
      obtain ⟨l, i⟩ := l
      have dl : d ≠ l := ne_of hd2 hl2 (by intro z; cases z)
      have di : d ≠ i := ne_of hd2 hi2 (by intro z; cases z)
      walk_at "my_go"
      refine s_getRest hd2 ?_
      walk_at "my_go"
      refine s_getRest hd2 ?_
      walk_at "my_go"
      refine s_putRest hd2 ?_
      have e : x.fdiv size = x / size := Int.fdiv_eq_ediv_of_nonneg _ (by omega)
      have x1 : 0 ≤ x.fdiv size := by rw [e]; exact Int.ediv_nonneg x0 (by omega)
      generalize x.fdiv size = x' at *
      walk_at "my_go"
      refine q _ _ ⟨fun b o z n m => by rw [upd_ne n]; exact b2.kp b o z n m, by rw [upd_same]; simp, by rw [upd_ne dl.symm, hl2]; simp⟩ ⟨xs, ls, x', t, upd_same, by rw [upd_ne dl.symm]; exact hl2, by rw [upd_ne di.symm]; exact hi2, ne, pl, nx, nl, x1, t0, tN⟩ (Int.fmod_nonneg_of_pos _ h0) (Int.fmod_lt_of_pos _ h0)
    · intro Nx hk
      obtain ⟨xs, ls, x, t, hd, hl, hi, ne, pl, nx, nl, x0, t0, tN⟩ := D0.ex
      have dl : d ≠ l.1 := ne_of hd hl (by intro z; cases z)
      have di : d ≠ l.2 := ne_of hd hi (by intro z; cases z)
      walk_at "my_go"
      refine s_getRest hd ?_
      walk_at "my_go"
      by_cases hx0 : x = 0
      · rw [decide_eq_true hx0]
        walk_at "my_go"
        refine s_getLargeS hd ?_
        walk_at "my_go"
        refine s_newNil (K := K) ?_
        intro p H3 s3 r3
        refine s_neD (rL_ints (s3 _ _ hl)) r3 ?_
        walk_at "my_go"
        by_cases hne : ls = []
        · subst hne
          rw [decide_eq_true rfl]
          walk_at "my_go"
          refine s_getRest (s3 _ _ hd) ?_
          walk_at "my_go"
          refine c_mixed (D0.same s3) (by omega) ?_
          intro r H4 b4 D4 r0
          obtain ⟨xs', ls', x', t', hd4, hl4, hi4, ne4, pl4, nx4, nl4, x04, t04, tN4⟩ := D4.ex
          have dl4 : d ≠ l.1 := ne_of hd4 hl4 (by intro z; cases z)
          have di4 : d ≠ l.2 := ne_of hd4 hi4 (by intro z; cases z)
          walk_at "my_go"
          refine s_putRest hd4 ?_
          refine hk _ _ ⟨rfl, ⟨fun b o z n m => by rw [upd_ne n]; exact b4.kp b o (s3 _ _ z) n m, by rw [upd_same]; simp, by rw [upd_ne dl4.symm, hl4]; simp⟩, ⟨xs', ls', r, t', upd_same, by rw [upd_ne dl4.symm]; exact hl4, by rw [upd_ne di4.symm]; exact hi4, ne4, pl4, nx4, nl4, r0, t04, tN4⟩⟩
        · rw [decide_eq_false hne]
          walk_at "my_go"
          refine s_getLargeS (s3 _ _ hd) ?_
          walk_at "my_go"
          obtain ⟨y, ls', rfl⟩ : ∃ y ls', ls = y :: ls' := by
            cases ls with
            | nil => exact absurd rfl hne
            | cons y ls' => exact ⟨y, ls', rfl⟩
          refine ⟨.inl ⟨rfl, _, SqL.of (s3 _ _ hl)⟩, ?_⟩
          walk_at "my_go"
          refine ⟨l.1, _, 0, 0, V.int y, rfl, rfl, s3 _ _ hl, by decide, by decide, seq_zero (by simp), rfl, ?_⟩
          walk_at "my_go"
          refine s_putRest (l := l.1) (i := l.2) (a := x) (b := t) (by rw [upd_ne dl]; exact s3 _ _ hd) ?_
          refine hk _ _ ⟨rfl, ⟨fun b o z n m => by rw [upd_ne n, upd_ne m]; exact s3 _ _ z, by rw [upd_same]; simp, by rw [upd_ne dl.symm, upd_same]; simp⟩, ⟨xs, ls', y, t, upd_same, by rw [upd_ne dl.symm, upd_same]; rfl, by rw [upd_ne di.symm, upd_ne ne]; exact s3 _ _ hi, ne, fun z hz => pl z (List.mem_cons_of_mem _ hz), nx, by simp at nl; omega, pl y (List.mem_cons_self ..), t0, by omega⟩⟩
      · rw [decide_eq_false hx0]
        walk_at "my_go"
        refine s_getRest hd ?_
        walk_at "my_go"
        exact hk _ _ ⟨rfl, But.of_sameS (Same.refl _) D0, D0.le (by omega)⟩
end
abbrev s__law_less : Stmt := topS 40
theorem sc__law_less : FnScope ["a", "b"] ["a", "b"] (defScope s__law_less) := ⟨rfl, rfl, rfl, by decide +kernel, rfl, by decide +kernel, by decide +kernel⟩
theorem st__law_less {x0 x1 : V} : L2.start ["a", "b"] [x0, x1] = [some x0, some x1] := rfl

def sp_less (K : Fg) : Sp := fun vs H Q _ => ∃ (M : Ms) (x y : V) (a b : Rat) (j k : Nat), vs = [x, y] ∧ rFr K M H x a ∧ rFr K M H y b ∧ BQ j a ∧ BQ k b ∧ j + k < 999990 ∧ Q (.bl (decide (a < b))) H
theorem c_less {K : Fg} {M : Ms} {H : Hp} {Q : VK} {E : XK} {x y : V} {a b : Rat} {j k : Nat} (ha : rFr K M H x a) (hb : rFr K M H y b) (ba : BQ j a) (bb : BQ k b) (hk : j + k < 999990) (h : Q (.bl (decide (a < b))) H) :
    sp_less K ([x, y] ++ []) H Q E := ⟨M, x, y, a, b, j, k, rfl, ha, hb, ba, bb, hk, h⟩
local macro_rules | `(tactic| walk_at "my_call") => `(tactic| ((with_reducible apply c_less); (case ha => walk_at "my_tr"); (case hb => walk_at "my_tr"); (case ba => walk_at "my_bq"); (case bb => walk_at "my_bq"); (case hk => omega)))
section
variable {P : Program} {w : World} {K : PySem.W.Frag} {mg : Str → Option Value} {base : Heap}
theorem ok__law_less {f : Addr} {fd : FuncData} (F : Fun K "_law_less" "_law_less" s__law_less f fd)  : FnOk P w K mg base CX0 1 f fd ["a", "b"] (sp_less K) := by
  refine F.ok (k := 0) sc__law_less (fun vs H Q E h => ?_) (fun cdv A outer s H vs Q E hr h => ?_)
  · obtain ⟨M, x, y, a, b, j, k, rfl, ha, hb, ba, bb, hk, q⟩ := h; rfl
  · obtain ⟨M, x, y, a, b, j, k, rfl, ha, hb, ba, bb, hk, q⟩ := h
    refine ⟨_, (pss_one (ps_ret (pe_cmpR op_lt (pe_op opMul (pe_ix (ixSeq K) (pv 0) pe_int (fun _ _ => rfl)) (pe_ix (ixSeq K) (pv 1) pe_int (fun _ _ => rfl))) (pe_op opMul (pe_ix (ixSeq K) (pv 1) pe_int (fun _ _ => rfl)) (pe_ix (ixSeq K) (pv 0) pe_int (fun _ _ => rfl))) (nomark _)))), ?_⟩
    rw [st__law_less]
    try simp only [cxK, cxK2]

    walk_at "my_go"
    rw [show decide (a.num * (b.den : Int) < b.num * (a.den : Int)) = decide (a < b) from decide_eq_decide.mpr (q_lt a b)]
    exact q
end
abbrev s__law_in_order : Stmt := topS 41
theorem sc__law_in_order : FnScope ["times", "found", "time", "at"] ["times"] (defScope s__law_in_order) := ⟨rfl, rfl, rfl, by decide +kernel, rfl, by decide +kernel, by decide +kernel⟩
theorem st__law_in_order {x0 : V} : L2.start ["times", "found", "time", "at"] [x0] = [some x0, none, none, none] := rfl

/-- times that rise -/
def Rise (ts : List Rat) : Prop := ts.Pairwise (· < ·)
def sp_inOrder (K : Fg) : Sp := fun vs H Q _ => ∃ (M : Ms) (v : V) (ts : List Rat), vs = [v] ∧ rL rFr K M H v ts ∧ ts.length ≤ 90000 ∧ (∀ t ∈ ts, D60 t) ∧ Own M H ∧ ∀ w us H', Same H H' → rS rFr K M H' w us → (0 < ts.length → 0 < us.length) → us.length ≤ ts.length → Rise us → (Rise ts → us = ts) → (∀ t ∈ us, D60 t) → Q w H'
theorem c_inOrder {K : Fg} {M : Ms} {H : Hp} {Q : VK} {E : XK} {v : V} {ts : List Rat} (h : rL rFr K M H v ts) (hn : ts.length ≤ 90000) (hb : ∀ t ∈ ts, D60 t) (ow : Own M H) (q : ∀ w us H', Same H H' → rS rFr K M H' w us → (0 < ts.length → 0 < us.length) → us.length ≤ ts.length → Rise us → (Rise ts → us = ts) → (∀ t ∈ us, D60 t) → Q w H') : sp_inOrder K ([v] ++ []) H Q E := ⟨M, v, ts, rfl, h, hn, hb, ow, q⟩
theorem rise_put {us : List Rat} {t : Rat} {k : Nat} (h : Rise us) (l : ∀ x ∈ us.take k, x < t) (g : ∀ x ∈ us.drop k, t < x) : Rise (us.take k ++ [t] ++ us.drop k) := by
  unfold Rise at *
  rw [List.pairwise_append, List.pairwise_append]
  refine ⟨⟨h.sublist (List.take_sublist ..), List.pairwise_singleton .., fun a ha b hb => by rw [List.mem_singleton.mp hb]; exact l a ha⟩, h.sublist (List.drop_sublist ..), fun a ha b hb => ?_⟩
  rcases List.mem_append.mp ha with ha | ha
  · exact Std.lt_trans (l a ha) (g b hb)
  · rw [List.mem_singleton.mp ha]; exact g b hb
theorem rise_take {us : List Rat} {t : Rat} {k : Nat} (h : Rise us) (hk : k < us.length) (l : us[k] < t) : ∀ x ∈ us.take (k + 1), x < t := by
  intro x hx
  obtain ⟨i, hi, rfl⟩ := List.mem_iff_getElem.mp hx
  rw [List.length_take] at hi
  rw [List.getElem_take]
  have := List.pairwise_iff_getElem.mp h
  by_cases z : i = k
  · subst z; exact l
  · exact Std.lt_trans (this i k (by omega) hk (by omega)) l
section
variable {P : Program} {w : World} {K : PySem.W.Frag} {mg : Str → Option Value} {base : Heap}
theorem ok__law_in_order {f : Addr} {fd : FuncData} (F : Fun K "_law_in_order" "_law_in_order" s__law_in_order f fd) (G__law_less : Cal P w K mg base CX0 1 "_law_less" ["a", "b"] [] (sp_less K)) (z_len : mg "len" = none) : FnOk P w K mg base CX0 2 f fd ["times"] (sp_inOrder K) := by
  refine F.ok (k := 1) sc__law_in_order (fun vs H Q E h => ?_) (fun cdv A outer s H vs Q E hr h => ?_)
  · obtain ⟨M, v, ts, rfl, h, hn, hb, ow, q⟩ := h; rfl
  · obtain ⟨M, v, ts, rfl, h, hn, hb, ow, q⟩ := h
    refine ⟨_, (pss_cons (ps_set (i := 1) sc__law_in_order.nd rfl (by first | exact Or.inl rfl | exact Or.inr rfl) (pe_lst pa_nil))
      (pss_cons (ps_for PassesOwn.never rfl (piListK K (pv 0)) (pg_name (i := 2) sc__law_in_order.nd rfl (by first | exact Or.inl rfl | exact Or.inr rfl)) (pss_cons (ps_set (i := 3) sc__law_in_order.nd rfl (by first | exact Or.inl rfl | exact Or.inr rfl) (pe_callB (callLenK K) (by rfl) z_len (by decide +kernel) (pa_cons (pv 1) pa_nil)))
      (pss_cons (ps_while PassesOwn.never (PW.pt (pw_and (pt_cmpR op_gt (pv 3) pe_int (nomark _)) (pw_and1 (pt_val (pe_cal G__law_less (hr.mono (by decide)) (by rfl) pass0 (pa_cons (pv 2) (pa_cons (pe_ix (ixSeq K) (pv 1) (pe_op op_sub (pv 3) pe_int) (fun _ _ => rfl)) pa_nil))))))) (pss_one (ps_set (i := 3) sc__law_in_order.nd rfl (by first | exact Or.inl rfl | exact Or.inr rfl) (pe_op op_sub (pv 3) pe_int))))
      (pss_one (ps_if (PW.pt (pw_or (pt_cmpR (opEqK K hr.units) (pv 3) pe_int (nomark _)) (pw_or1 (pt_cmpR (opNeK K hr.units) (pe_ix (ixSeq K) (pv 1) (pe_op op_sub (pv 3) pe_int) (fun _ _ => rfl)) (pv 2) (nomark _))))) (pss_one (ps_expr (pe_bm PySem.F.plainAttrs_list PySem.F.slot_list_insert PySem.F.type_list_insert mt_insert (pv 1) (pa_cons (pv 3) (pa_cons (pv 2) pa_nil))))) pss_nil)))))
      (pss_one (ps_ret (pv 1))))), ?_⟩
    rw [st__law_in_order]
    try simp only [cxK, cxK2]

    walk_at "my_go"
    refine ⟨Nat.zero_le _, fun r nr => ?_⟩
    have s1 : Same H (upd H r (.lst [])) := Same.upd_new nr
    have g1 : Bl rFr K M r (upd H r (.lst [])) [] := Bl.new nr
    have rr : ¬ M r := ow.fresh nr
    have ow1 : Own (mIn M r) (upd H r (.lst [])) := ow.inside s1 upd_same
    have h1 : rL rFr K (mIn M r) (upd H r (.lst [])) v ts := Rp.inw nr s1 h
    generalize upd H r (.lst []) = H1 at *
    walk_at "my_go"
    refine forI_by (A := rFr) (M := mIn M r) h1 (fun i σ H3 => ∃ (us : List Rat) (o2 o3 : Option V), σ = [some v, some (.ref r), o2, o3] ∧ Same H H3 ∧ Own (mIn M r) H3 ∧ rL rFr K (mIn M r) H3 v ts ∧ Bl rFr K M r H3 us ∧ Rise us ∧ (∀ t ∈ us, D60 t) ∧ us.length ≤ i ∧ (0 < i → 0 < us.length) ∧ (Rise (ts.take i) → us = ts.take i)) ⟨[], _, _, rfl, s1, ow1, h1, g1, List.Pairwise.nil, (fun t ht => by cases ht), Nat.le_refl _, (fun z => by omega), fun _ => rfl⟩ ?_ ?_ ?_
    · rintro i σ H3 ⟨us, o2, o3, rfl, s3, ow3, h3, _⟩
      exact h3
    · rintro i t vt σ H3 N hi ⟨us, o2, o3, rfl, s3, ow3, h3, g3, ri, du, ln, lp, leq⟩ rt hk
      have hi40 : i < 90000 := by have := (List.getElem?_eq_some_iff.mp hi).1; omega
      have etk : ts.take (i + 1) = ts.take i ++ [t] := by rw [List.take_succ, hi]; rfl
      have lt' : Rise (ts.take (i + 1)) → us = ts.take i ∧ ∀ x ∈ us, x < t := fun z => by
        rw [etk] at z
        have z := List.pairwise_append.mp z
        have e := leq z.1
        exact ⟨e, fun x hx => z.2.2 x (by rw [← e]; exact hx) t (List.mem_singleton.mpr rfl)⟩
      have dt := hb t (List.mem_of_getElem? hi)
      have bt : BQ 200 t := d60_bq dt
      walk_at "my_go"
      refine s_lenB g3 ?_
      walk_at "my_go1"
      refine s_cut (fun σ' Hc => Hc = H3 ∧ ∃ k : Nat, σ' = [some v, some (.ref r), some vt, some (.int (k : Nat))] ∧ k ≤ us.length ∧ (∀ x ∈ us.drop k, t < x) ∧ (k = 0 ∨ ∃ a, us[k - 1]? = some a ∧ ¬ t < a)) ?_ ?_
      · rintro σ' Hc ⟨rfl, k, rfl, kl, kg, ka⟩
        have ins : (∀ x ∈ us.take k, x < t) → ∃ (l : Addr) (xs : List V) (i : Int) (y : V), V.ref r = .ref l ∧ [V.int (k : Nat), vt] = [V.int i, y] ∧ Hc l = some (.lst xs) ∧ xs.length < sizeLine ∧ 0 ≤ i ∧ i < 2 ^ 63 ∧ N [some v, some (.ref r), some vt, some (.int (k : Nat))] (upd Hc l (.lst (xs.take i.toNat ++ [y] ++ xs.drop i.toNat))) := by
          intro hl
          obtain ⟨vs, e, p⟩ := id g3
          have pl := Prd.len p
          refine ⟨r, vs, k, vt, rfl, rfl, e, small_line (by omega), by omega, by omega, ?_⟩
          rw [Int.toNat_natCast]
          have kp : ∀ b o, Hc b = some o → b ≠ r → upd Hc r (.lst (vs.take k ++ [vt] ++ vs.drop k)) b = some o := fun b o e n => by rw [upd_ne n]; exact e
          refine hk _ _ ⟨us.take k ++ [t] ++ us.drop k, _, _, rfl, Same.push s3 nr kp, ow3.updM, Mono.mono Tr.updM h3, ⟨_, upd_same, Prd.append (Prd.append (Prd.monoR (fun _ _ z => Mono.mono Tr.updM z) (Prd.take p)) (.cons (Mono.mono Tr.updM rt) .nil)) (Prd.monoR (fun _ _ z => Mono.mono Tr.updM z) (Prd.drop p))⟩, rise_put ri hl kg, ?_, ?_, ?_, ?_⟩
          · intro x hx
            rcases List.mem_append.mp hx with hx | hx
            · rcases List.mem_append.mp hx with hx | hx
              · exact du x (List.mem_of_mem_take hx)
              · rw [List.mem_singleton.mp hx]; exact dt
            · exact du x (List.mem_of_mem_drop hx)
          · simp only [List.length_append, List.length_take, List.length_drop, List.length_cons, List.length_nil]
            omega
          · intro _
            simp only [List.length_append, List.length_cons, List.length_nil]
            omega
          · intro z
            obtain ⟨e, l⟩ := lt' z
            have kl : k = us.length := by
              rcases Nat.lt_or_ge k us.length with w | w
              · have hm : us[k] ∈ us.drop k := by rw [List.drop_eq_getElem_cons w]; exact .head _
                exact absurd (Std.lt_trans (kg _ hm) (l _ (List.getElem_mem w))) (Rat.lt_irrefl)
              · omega
            rw [kl, List.take_length, List.drop_length, List.append_nil, etk, e]
        walk_at "my_go"
        rcases ka with rfl | ⟨a, ea, hna⟩
        · rw [decide_eq_true (by omega)]
          walk_at "my_go"
          refine ⟨s_tyB g3, ?_⟩
          walk_at "my_go"
          exact ins (fun x hx => by simp at hx)
        · have k0 : 0 < k := by
            rcases Nat.eq_zero_or_pos k with z | z
            · subst z
              exact absurd (kg a (List.mem_of_getElem? ea)) hna
            · exact z
          rw [decide_eq_false (by omega)]
          walk_at "my_go"
          refine s_ixB (j := k - 1) g3 ea (by rw [show ((k : Int) - 1) = ((k - 1 : Nat) : Int) by omega]; exact ixN_nat (by omega)) ?_
          intro y1 q1
          walk_at "my_go"
          have hka : k - 1 < us.length := by omega
          have ga : us[k - 1] = a := by
            have := List.getElem?_eq_getElem hka
            rw [ea] at this
            exact (Option.some.inj this).symm
          by_cases hat : a = t
          · rw [decide_eq_true hat]
            walk_at "my_go"
            exact hk _ _ ⟨us, _, _, rfl, s3, ow3, h3, g3, ri, du, by omega, (fun _ => by omega), fun z => absurd (hat ▸ (lt' z).2 a (List.mem_of_getElem? ea)) Rat.lt_irrefl⟩
          · rw [decide_eq_false hat]
            walk_at "my_go"
            refine ⟨s_tyB g3, ?_⟩
            walk_at "my_go"
            refine ins ?_
            have lta : us[k - 1] < t := by
              rw [ga]
              exact Std.lt_of_le_of_ne (Rat.not_lt.mp hna) hat
            have := rise_take ri hka lta
            rwa [show k - 1 + 1 = k by omega] at this
      · intro Nw hNw
        refine while_N (fun σ Hc => Hc = H3 ∧ ∃ k : Nat, σ = [some v, some (.ref r), some vt, some (.int (k : Nat))] ∧ k ≤ us.length ∧ (∀ x ∈ us.drop k, t < x)) (fun σ _ => match σ with | [_, _, _, some (.int k)] => k.toNat | _ => 0) ⟨rfl, us.length, rfl, Nat.le_refl _, fun x hx => by rw [List.drop_length] at hx; cases hx⟩ ?_
        rintro σ Hc ⟨rfl, k, rfl, kl, kg⟩
        walk_at "my_go"
        by_cases hk0 : 0 < k
        · rw [decide_eq_true (by omega)]
          walk_at "my_go"
          have ea := List.getElem?_eq_getElem (show k - 1 < us.length by omega)
          generalize hea : us[k - 1]'(by omega) = a at ea
          have ba : BQ 200 a := d60_bq (du a (List.mem_of_getElem? ea))
          refine s_ixB (j := k - 1) g3 ea (by rw [show ((k : Int) - 1) = ((k - 1 : Nat) : Int) by omega]; exact ixN_nat (by omega)) ?_
          intro y1 q1
          walk_at "my_go"
          by_cases hta : t < a
          · rw [decide_eq_true hta]
            walk_at "my_go"
            refine whN ?_
            walk_at "my_go"
            refine ⟨⟨rfl, k - 1, by rw [show ((k - 1 : Nat) : Int) = (k : Int) - 1 by omega], by omega, ?_⟩, ?_⟩
            · intro x hx
              rw [List.drop_eq_getElem_cons (show k - 1 < us.length by omega), show k - 1 + 1 = k by omega, hea] at hx
              rcases List.mem_cons.mp hx with rfl | hx
              · exact hta
              · exact kg x hx
            · show ((k : Int) - 1).toNat < (k : Int).toNat
              omega
          · rw [decide_eq_false hta]
            walk_at "my_go"
            exact hNw _ _ ⟨rfl, k, rfl, kl, kg, .inr ⟨a, ea, hta⟩⟩
        · rw [decide_eq_false (by omega)]
          walk_at "my_go"
          exact hNw _ _ ⟨rfl, k, rfl, kl, kg, .inl (by omega)⟩
    · rintro σ H3 ⟨us, o2, o3, rfl, s3, ow3, h3, g3, ri, du, ln, lp, leq⟩
      walk_at "my_go"
      exact q _ us _ s3 (g3.done rr) lp ln ri (fun z => by rw [List.take_length] at leq; exact leq z) du
end
abbrev s__law_frac : Stmt := topS 39
theorem sc__law_frac : FnScope ["n", "d", "one", "other"] ["n", "d"] (defScope s__law_frac) := ⟨rfl, rfl, rfl, by decide +kernel, rfl, by decide +kernel, by decide +kernel⟩
theorem st__law_frac {x0 x1 : V} : L2.start ["n", "d", "one", "other"] [x0, x1] = [some x0, some x1, none, none] := rfl

theorem emod_fmod {a b : Int} (h : 0 ≤ b) : a.fmod b = a % b := Int.fmod_eq_emod_of_nonneg a h
section
variable {P : Program} {w : World} {K : PySem.W.Frag} {mg : Str → Option Value} {base : Heap}
theorem ok__law_frac {f : Addr} {fd : FuncData} (F : Fun K "_law_frac" "_law_frac" s__law_frac f fd) (z_abs : mg "abs" = none) : FnOk P w K mg base CX0 1 f fd ["n", "d"] (sp_div K) := by
  refine F.ok (k := 0) sc__law_frac (fun vs H Q E h => ?_) (fun cdv A outer s H vs Q E hr h => ?_)
  · obtain ⟨M, n, d, k, rfl, hd, hb, hk, ow, q⟩ := h; rfl
  · obtain ⟨M, n, d, k, rfl, hd, hb, hk, ow, q⟩ := h
    refine ⟨_, (pss_cons (ps_par (i := 2) (j := 3) rfl sc__law_frac.nd rfl rfl (by decide) rfl rfl (pa_cons (pe_callB callAbs (by rfl) z_abs (by decide +kernel) (pa_cons (pv 0) pa_nil)) (pa_cons (pe_callB callAbs (by rfl) z_abs (by decide +kernel) (pa_cons (pv 1) pa_nil)) pa_nil)) (by rfl))
      (pss_cons (ps_while PassesOwn.never (pt_cmpR (opNeK K hr.units) (pv 3) pe_int (nomark _)) (pss_one (ps_par (i := 2) (j := 3) rfl sc__law_frac.nd rfl rfl (by decide) rfl rfl (pa_cons (pv 3) (pa_cons (pe_op op_modN (pv 2) (pv 3)) pa_nil)) (by rfl))))
      (pss_cons (ps_set (i := 2) sc__law_frac.nd rfl (by first | exact Or.inl rfl | exact Or.inr rfl) (pe_ifExp (pt_cmpR op_gt (pv 1) pe_int (nomark _)) (pv 2) (pe_op op_sub pe_int (pv 2))))
      (pss_one (ps_ret (pe_tup (pa_cons (pe_op opDiv (pv 0) (pv 2)) (pa_cons (pe_op opDiv (pv 1) (pv 2)) pa_nil)))))))), ?_⟩
    rw [st__law_frac]
    try simp only [cxK, cxK2]

    have gp := gcd_pos_of (n := n) hd
    have g0 : ((Nat.gcd n.natAbs d.natAbs : Nat) : Int) ≠ 0 := by omega
    have gb : Bd k ((Nat.gcd n.natAbs d.natAbs : Nat) : Int) := hb.of_le (by
      have := Nat.le_of_dvd (by omega) (Nat.gcd_dvd_right n.natAbs d.natAbs)
      omega)
    have L := low_terms (n := n) hd rfl
    walk_at "my_go"
    refine while_by (fun σ H1 => H1 = H ∧ ∃ a b : Nat, σ = [some (.int n), some (.int d), some (.int (a : Nat)), some (.int (b : Nat))] ∧ Nat.gcd a b = Nat.gcd n.natAbs d.natAbs) (fun σ _ => match σ with | [_, _, _, some (.int b)] => b.toNat | _ => 0) ⟨rfl, _, _, rfl, rfl⟩ ?_ (fun σ H1 Q1 Q2 hq hc => mono_ne hq hc)
    · rintro σ H1 ⟨rfl, a, b, rfl, hg⟩
      walk_at "my_go"
      walk_at "my_sp"
      · rename_i hb0
        walk_at "my_go"
        have e : (a : Int).fmod (b : Int) = ((a % b : Nat) : Int) := by rw [emod_fmod (by omega)]; rfl
        rw [e]
        refine ⟨⟨rfl, b, a % b, rfl, ?_⟩, ?_⟩
        · rw [← hg, Nat.gcd_comm b, ← Nat.gcd_rec, Nat.gcd_comm]
        · show ((a % b : Nat) : Int).toNat < ((b : Nat) : Int).toNat
          have := Nat.mod_lt a (show 0 < b by omega)
          omega
      · rename_i hb0
        have hb1 : b = 0 := by simpa using hb0
        subst hb1
        rw [Nat.gcd_zero_right] at hg
        rw [hg]
        walk_at "my_go"
        walk_at "my_sp"
        · walk_at "my_go"
          refine s_newFr ow ?_ ?_ q
          · rw [fdiv_dvd (gcd_dvd_l n d)]; exact (L.1 (by omega)).1
          · rw [fdiv_dvd (gcd_dvd_r n d)]; exact (L.1 (by omega)).2
        · walk_at "my_go"
          rw [Int.zero_sub]
          have gb' : Bd k (-((Nat.gcd n.natAbs d.natAbs : Nat) : Int)) := gb.neg
          walk_at "my_go"
          refine s_newFr ow ?_ ?_ q
          · rw [fdiv_neg_dvd (gcd_dvd_l n d)]; exact (L.2 (by omega)).1
          · rw [fdiv_neg_dvd (gcd_dvd_r n d)]; exact (L.2 (by omega)).2
end
abbrev s__law_number : Stmt := topS 46
theorem sc__law_number : FnScope ["text", "found", "sign"] ["text"] (defScope s__law_number) := ⟨rfl, rfl, rfl, by decide +kernel, rfl, by decide +kernel, by decide +kernel⟩
theorem st__law_number {x0 : V} : L2.start ["text", "found", "sign"] [x0] = [some x0, none, none] := rfl

def dval (l : List Nat) : Nat := l.foldl (fun a c => a * 10 + (c - 48)) 0
theorem dval_snoc (l : List Nat) (c : Nat) : dval (l ++ [c]) = dval l * 10 + (c - 48) := by unfold dval; rw [List.foldl_append]; rfl
theorem dval_numL (n : Nat) : dval (TL.numL n) = n := by
  induction n using Nat.strongRecOn with
  | ind n ih =>
    by_cases h : n < 10
    · rw [TL.numL_lt h]
      show 0 * 10 + (48 + n - 48) = n
      omega
    · rw [TL.numL_step (by omega), dval_snoc, ih (n / 10) (by omega)]
      omega
theorem dval_lt {l : List Nat} (h : l.all isDig = true) : dval l < 10 ^ l.length := by
  have key : ∀ k (l : List Nat), l.length ≤ k → l.all isDig = true → dval l < 10 ^ l.length := by
    intro k
    induction k with
    | zero => intro l hl _; cases l with | nil => decide | cons _ _ => simp at hl
    | succ k ih =>
      intro l hl h
      rcases List.eq_nil_or_concat l with rfl | ⟨m, c, rfl⟩
      · decide
      · rw [List.concat_eq_append] at *
        rw [List.all_append, Bool.and_eq_true] at h
        have := ih m (by rw [List.length_append] at hl; simp at hl; omega) h.1
        have hc := h.2
        unfold isDig at hc
        simp only [List.all_cons, List.all_nil, Bool.and_true, Bool.and_eq_true, decide_eq_true_eq] at hc
        rw [dval_snoc, List.length_append, List.length_singleton, Nat.pow_succ]
        omega
  exact key _ l (Nat.le_refl _) h
def numO (l : List Nat) : Option Nat := if natB l = true then some (dval l) else none
def optV : Option Nat → V
  | none => .non
  | some n => .int n
theorem numO_some {l : List Nat} {n : Nat} : numO l = some n ↔ l = TL.numL n ∧ n < 10 ^ 60 := by
  unfold numO
  constructor
  · intro h
    split at h
    · rename_i z
      obtain ⟨m, rfl, hm⟩ := natB_iff.mp z
      cases h
      rw [dval_numL]
      exact ⟨rfl, hm⟩
    · cases h
  · rintro ⟨rfl, hm⟩
    rw [if_pos (natB_iff.mpr ⟨n, rfl, hm⟩), dval_numL]
theorem numO_none {l : List Nat} : numO l = none ↔ natB l = false := by
  unfold numO
  split
  · rename_i z
    simp [z]
  · rename_i z
    simp [z]
def sp_lnum (K : Fg) : Sp := fun vs H Q _ => ∃ (M : Ms) (w : V) (l : List Nat), vs = [w] ∧ rTx K M H w l ∧ l.length ≤ 90000 ∧ Low l ∧ Own M H ∧ ∀ H', Same H H' → Q (optV (numO l)) H'
theorem c_lnum {K : Fg} {M : Ms} {H : Hp} {Q : VK} {E : XK} {w : V} {l : List Nat} (h : rTx K M H w l) (hn : l.length ≤ 90000) (lw : Low l) (ow : Own M H) (q : ∀ H', Same H H' → Q (optV (numO l)) H') : sp_lnum K ([w] ++ []) H Q E := ⟨M, w, l, rfl, h, hn, lw, ow, q⟩
section
variable {P : Program} {w : World} {K : PySem.W.Frag} {mg : Str → Option Value} {base : Heap}
theorem ok__law_number {f : Addr} {fd : FuncData} (F : Fun K "_law_number" "_law_number" s__law_number f fd) (z_len : mg "len" = none) : FnOk P w K mg base CX0 1 f fd ["text"] (sp_lnum K) := by
  refine F.ok (k := 0) sc__law_number (fun vs H Q E h => ?_) (fun cdv A outer s H vs Q E hr h => ?_)
  · obtain ⟨M, w, l, rfl, hw, hn, lw, ow, q⟩ := h; rfl
  · obtain ⟨M, w, l, rfl, hw, hn, lw, ow, q⟩ := h
    refine ⟨_, (pss_cons (ps_if (PW.pt (pw_or (pt_not (pt_chain op_le op_le pe_int (pe_callB call_len_str (by rfl) z_len (by decide +kernel) (pa_cons (pv 0) pa_nil)) pe_int)) (pw_or1 (pt_cmpR (opNeK K hr.units) (pe_lc (own := [("sign", 2)]) rfl sc__law_number.nd (pi_str (pv 0)) (blkOk_by (own := [("sign", 2)]) (N := ["text", "found", "sign"]) (sc := defScope s__law_number) (by decide +kernel)) (fun _ _ _ _ _ => (pg_name (i := 2) sc__law_number.nd rfl (by first | exact Or.inl rfl | exact Or.inr rfl))) (fun _ _ _ _ _ => (pts_one (pt_cmpR op_notIn_sign (pv 2) pe_str (by rfl)))) (fun _ _ _ _ _ => (pv 2))) (pe_lst pa_nil) (nomark _))))) (pss_one (ps_ret pe_non)) pss_nil)
      (pss_cons (ps_set (i := 1) sc__law_number.nd rfl (by first | exact Or.inl rfl | exact Or.inr rfl) pe_int)
      (pss_cons (ps_for PassesOwn.never rfl (pi_str (pv 0)) (pg_name (i := 2) sc__law_number.nd rfl (by first | exact Or.inl rfl | exact Or.inr rfl)) (pss_one (ps_set (i := 1) sc__law_number.nd rfl (by first | exact Or.inl rfl | exact Or.inr rfl) (pe_op (opAddK K) (pe_op opMul (pv 1) pe_int) (pe_m1 PySem.F.slot_str_index PySem.F.type_str_index mt_sindex pe_str (pv 2))))))
      (pss_one (ps_ret (pe_ifExp (PW.pt (pw_or (pt_cmpR (opEqK K hr.units) (pe_callB call_len_str (by rfl) z_len (by decide +kernel) (pa_cons (pv 0) pa_nil)) pe_int (nomark _)) (pw_or1 (pt_cmpR (opNeK K hr.units) (pe_item_str (pv 0) pe_int (fun _ _ => rfl)) pe_str (nomark _))))) (pv 1) pe_non)))))), ?_⟩
    rw [st__law_number]
    try simp only [cxK, cxK2]

    obtain rfl : w = .str (SX.S l) := hw
    walk_at "my_go"
    refine ⟨_, rfl, _, rfl, by rw [SX.S_len]; exact Nat.le_trans (show _ ≤ 100000 by omega) (by decide), ?_⟩
    rw [SX.S_len]
    by_cases h1 : 1 ≤ l.length
    · refine ⟨1, _, rfl, rfl, true, congrArg V.bl (decide_eq_true (by omega)), ?_⟩
      rw [if_pos rfl]
      by_cases h2 : l.length ≤ 60
      · refine ⟨_, 60, rfl, rfl, true, congrArg V.bl (decide_eq_true (by omega)), ?_⟩
        walk_at "my_go"
        refine s_lcS ?_
        refine ⟨_, rfl, _, rfl, ?_⟩
        refine lc_str (B := rCh) (K := K) (M := M) (fun c => !isDig c) id ow (by omega) ?_ ?_
        · rintro i c v M' H2 Z N hi ht hw rfl hZ hN
          walk_at "my_go"
          refine ⟨c, SX.S [48, 49, 50, 51, 52, 53, 54, 55, 56, 57], rfl, congrArg V.str tx_digits, ?_⟩
          rw [in_dig]
          cases hc : isDig c
          · refine ⟨_, rfl, ?_⟩
            rw [if_pos (by rfl)]
            refine ⟨_, rfl, ?_⟩
            exact hZ (by rw [hc]; rfl) _ _ (Same.refl _) rfl
          · refine ⟨_, rfl, ?_⟩
            rw [if_neg (by decide)]
            exact hN (by rw [hc]; rfl) _ (Same.refl _)
        intro v2 H2 s2 r2
        walk_at "my_go"
        refine s_newL (A := rCh) (K := K) (M := M) (as := []) (ow.same s2) (by decide) .nil ?_
        intro v3 H3 s3 r3
        have s13 := s2.trans s3
        refine s_neChs (Rp.same s3 r2.l) r3 (fun c hc => lw c (by
          rw [List.map_id] at hc
          exact (List.mem_filter.mp hc).1)) ?_
        rw [List.map_id]
        by_cases hd : l.all isDig = true
        · have e0 : (l.filter fun c => !isDig c) = [] := by
            rw [List.filter_eq_nil_iff]
            intro c hc
            rw [List.all_eq_true.mp hd c hc]
            decide
          rw [e0]
          walk_at "my_go"
          refine forS_by rfl (fun i σ Hc => Hc = H3 ∧ ∃ o2, σ = [some (.str (SX.S l)), some (.int (dval (l.take i) : Nat)), o2]) ⟨rfl, _, rfl⟩ ?_ ?_
          · rintro i c σ Hc N hi ⟨rfl, o2, rfl⟩ hk
            have hil := (List.getElem?_eq_some_iff.mp hi).1
            have b1 : Bd 240 (dval (l.take i) : Int) := by
              have h3 := dval_lt (l := l.take i) (List.all_eq_true.mpr fun x hx => List.all_eq_true.mp hd x (List.mem_of_mem_take hx))
              rw [List.length_take] at h3
              have h4 : (10 : Nat) ^ (min i l.length) ≤ 10 ^ 60 := Nat.pow_le_pow_right (by decide) (by omega)
              unfold Bd
              omega
            have dc := List.all_eq_true.mp hd c (List.mem_of_getElem? hi)
            walk_at "my_go"
            refine ⟨⟨_, rfl⟩, _, rfl, SX.S [48, 49, 50, 51, 52, 53, 54, 55, 56, 57], ⟨#[c]⟩, c - 48, [], congrArg V.str tx_digits, rfl, dig_occ dc, ?_⟩
            have c48 : c - 48 ≤ 9 := by
              unfold isDig at dc
              simp only [Bool.and_eq_true, decide_eq_true_eq] at dc
              omega
            have b2 : Bd 10 ((c - 48 : Nat) : Int) := by unfold Bd; omega
            have e3 : dval (l.take (i + 1)) = dval (l.take i) * 10 + (c - 48) := by rw [List.take_succ, hi, ← dval_snoc]; rfl
            walk_at "my_go"
            refine hk _ _ ⟨rfl, some (.str ⟨#[c]⟩), ?_⟩
            rw [e3]
            rfl
          · rintro σ Hc ⟨rfl, o2, rfl⟩
            rw [List.take_length]
            walk_at "my_go"
            refine ⟨_, rfl, by rw [SX.S_len]; exact Nat.le_trans (show _ ≤ 100000 by omega) (by decide), ?_⟩
            rw [SX.S_len]
            walk_at "my_go"
            by_cases l1 : l.length = 1
            · rw [decide_eq_true (by omega)]
              walk_at "my_go"
              have en : numO l = some (dval l) := by
                unfold numO natB
                rw [if_pos]
                rw [hd, decide_eq_true h1, decide_eq_true h2]
                obtain ⟨c, rfl⟩ := List.length_eq_one_iff.mp l1
                by_cases z : c = 48
                · subst z; rfl
                · have : ¬ ([c] : List Nat)[0]? = some 48 := fun y => z (Option.some.inj y)
                  rw [decide_eq_false this]
                  simp
              rw [en] at q
              exact q _ s13
            · rw [decide_eq_false (by omega)]
              walk_at "my_go"
              obtain ⟨c, hc⟩ : ∃ c, l[0]? = some c := ⟨l[0]'(by omega), List.getElem?_eq_getElem (by omega)⟩
              refine ⟨_, 0, c, rfl, rfl, Int.le_refl _, by decide, by rw [SX.S_len]; omega, by simpa using hc, ?_⟩
              walk_at "my_go"
              have l48 : ¬ l = [48] := fun z => l1 (by rw [z]; rfl)
              have en : (c ≠ 48 → numO l = some (dval l)) ∧ (c = 48 → numO l = none) := by
                unfold numO natB
                rw [hd, decide_eq_true h1, decide_eq_true h2, hc, decide_eq_false l48]
                refine ⟨fun z => ?_, fun z => ?_⟩
                · rw [decide_eq_false (fun y => z (Option.some.inj y))]
                  rfl
                · subst z
                  rfl
              by_cases c48 : c = 48
              · have e : V.str ⟨#[c]⟩ = V.str (Str.ofString "0") := by subst c48; rw [tx_zero]
                refine .inl ⟨rfl, ?_⟩
                rw [decide_eq_true e]
                refine ⟨_, rfl, ?_⟩
                rw [if_neg (by decide)]
                walk_at "my_go"
                rw [en.2 c48] at q
                exact q _ s13
              · have e : ¬ V.str ⟨#[c]⟩ = V.str (Str.ofString "0") := fun z => by
                  rw [tx_zero] at z
                  exact c48 (List.cons.inj (SX.S_inj (V.str.inj z) : [c] = [48])).1
                refine .inl ⟨rfl, ?_⟩
                rw [decide_eq_false e]
                refine ⟨_, rfl, ?_⟩
                rw [if_pos (by decide)]
                walk_at "my_go"
                rw [en.1 c48] at q
                exact q _ s13
        · have e0 : ¬ (l.filter fun c => !isDig c) = [] := by
            rw [List.filter_eq_nil_iff]
            intro z
            refine hd (List.all_eq_true.mpr fun c hc => ?_)
            have := z c hc
            cases h : isDig c
            · rw [h] at this; exact absurd rfl this
            · rfl
          rw [decide_eq_false e0]
          walk_at "my_go"
          have en : numO l = none := numO_none.mpr (by unfold natB; rw [Bool.eq_false_iff.mpr hd, Bool.and_false, Bool.false_and])
          show Q V.non _
          rw [en] at q
          exact q _ s13
      · refine ⟨_, 60, rfl, rfl, false, congrArg V.bl (decide_eq_false (by omega)), ?_⟩
        walk_at "my_go"
        have en : numO l = none := numO_none.mpr (by unfold natB; rw [decide_eq_false h2, Bool.and_false, Bool.false_and, Bool.false_and])
        rw [en] at q
        exact q _ (Same.refl _)
    · refine ⟨1, _, rfl, rfl, false, congrArg V.bl (decide_eq_false (by omega)), ?_⟩
      walk_at "my_go"
      have en : numO l = none := numO_none.mpr (by unfold natB; rw [decide_eq_false h1, Bool.false_and, Bool.false_and, Bool.false_and])
      rw [en] at q
      exact q _ (Same.refl _)
end
abbrev s__law_fraction : Stmt := topS 47
theorem sc__law_fraction : FnScope ["text", "bare", "parts", "n", "d", "found"] ["text"] (defScope s__law_fraction) := ⟨rfl, rfl, rfl, by decide +kernel, rfl, by decide +kernel, by decide +kernel⟩
theorem st__law_fraction {x0 : V} : L2.start ["text", "bare", "parts", "n", "d", "found"] [x0] = [some x0, none, none, none, none, none] := rfl

def rOp {α : Type} (A : Rp α) : Rp (Option α) := fun K M H v o => match o with
  | none => v = .non
  | some a => A K M H v a
instance {α : Type} {A : Rp α} [i : Mono A] : Mono (rOp A) := ⟨fun {_ _ _ _ _ _ a} t h => match a, h with
  | none, h => h
  | some _, h => i.mono t h⟩
theorem lf_of {l : List Nat} {q : Rat} (h : fOf l = some q) : (SP 47 (bare l)).length ≤ 2 ∧ numO ((SP 47 (bare l)).getD 0 []) = some q.num.natAbs ∧
    ((SP 47 (bare l)).length = 1 → q.den = 1) ∧ ((SP 47 (bare l)).length = 2 → numO ((SP 47 (bare l)).getD 1 []) = some q.den ∧ 2 ≤ q.den) ∧ (l[0]? = some 45 → q.num.natAbs ≠ 0) := by
  obtain ⟨d, _⟩ := fOf_spec h
  obtain ⟨e, s⟩ := fOf_parts h
  rw [e]
  have dp := q.den_pos
  refine ⟨(fU_len q).2, ?_, ?_, ?_, fun z => by have := s.mp z; omega⟩
  · rw [List.getD_eq_getElem?_getD, fU_0]
    exact numO_some.mpr ⟨rfl, d.1⟩
  · intro z
    rcases Nat.lt_or_ge 1 q.den with w | w
    · have := (fU_1 (q := q) (by omega)).2
      omega
    · omega
  · intro z
    by_cases w : q.den = 1
    · have := fU_11 w
      omega
    · rw [List.getD_eq_getElem?_getD, (fU_1 w).1]
      exact ⟨numO_some.mpr ⟨rfl, d.2⟩, by omega⟩
theorem bare_len (l : List Nat) : (bare l).length ≤ l.length ∧ ∀ x ∈ bare l, x ∈ l := by
  unfold bare
  split
  · exact ⟨by rw [List.length_drop]; omega, fun x hx => List.mem_of_mem_drop hx⟩
  · exact ⟨Nat.le_refl _, fun x hx => hx⟩
theorem bare_eq {l : List Nat} : bare l = l ↔ ¬ l[0]? = some 45 := by
  unfold bare
  split
  · rename_i z
    refine ⟨fun h => ?_, fun h => absurd z h⟩
    have := congrArg List.length h
    rw [List.length_drop] at this
    have := (List.getElem?_eq_some_iff.mp z).1
    omega
  · rename_i z
    exact ⟨fun _ => z, fun _ => rfl⟩
theorem den_same {n m : Nat} (h : 1 ≤ m) : ((((n : Int) : Rat) / ((m : Int) : Rat)).den : Int) = (m : Int) ↔ Nat.gcd n m = 1 := by
  have L := low_terms (n := (n : Int)) (show (m : Int) ≠ 0 by omega) rfl
  obtain ⟨_, e2⟩ := L.1 (by omega)
  rw [Int.natAbs_natCast, Int.natAbs_natCast] at e2
  rw [e2]
  have gd : Nat.gcd n m ∣ m := Nat.gcd_dvd_right n m
  obtain ⟨c, hc⟩ := gd
  have gp : 0 < Nat.gcd n m := Nat.gcd_pos_of_pos_right _ (by omega)
  generalize Nat.gcd n m = g at *
  subst hc
  rw [Int.natCast_mul, Int.mul_ediv_cancel_left _ (by omega)]
  constructor
  · intro z
    rw [← Int.natCast_mul] at z
    have z := Int.ofNat.inj z
    have c0 : 0 < c := Nat.pos_of_ne_zero fun w => by subst w; simp at h
    have : c * g = c * 1 := by rw [Nat.mul_one, Nat.mul_comm]; exact z.symm
    exact Nat.eq_of_mul_eq_mul_left c0 this
  · rintro rfl
    simp
def sp_lfrac (K : Fg) : Sp := fun vs H Q _ => ∃ (M : Ms) (w : V) (l : List Nat), vs = [w] ∧ rTx K M H w l ∧ l.length ≤ 90000 ∧ Low l ∧ Own M H ∧ ∀ v H', Same H H' → rOp rFr K M H' v (fOf l) → Q v H'
theorem c_lfrac {K : Fg} {M : Ms} {H : Hp} {Q : VK} {E : XK} {w : V} {l : List Nat} (h : rTx K M H w l) (hn : l.length ≤ 90000) (lw : Low l) (ow : Own M H) (q : ∀ v H', Same H H' → rOp rFr K M H' v (fOf l) → Q v H') : sp_lfrac K ([w] ++ []) H Q E := ⟨M, w, l, rfl, h, hn, lw, ow, q⟩
section
variable {P : Program} {w : World} {K : PySem.W.Frag} {mg : Str → Option Value} {base : Heap}
theorem ok__law_fraction {f : Addr} {fd : FuncData} (F : Fun K "_law_fraction" "_law_fraction" s__law_fraction f fd) (G__law_frac : Cal P w K mg base CX0 1 "_law_frac" ["n", "d"] [] (sp_div K)) (G__law_number : Cal P w K mg base CX0 1 "_law_number" ["text"] [] (sp_lnum K)) (z_len : mg "len" = none) : FnOk P w K mg base CX0 2 f fd ["text"] (sp_lfrac K) := by
  refine F.ok (k := 1) sc__law_fraction (fun vs H Q E h => ?_) (fun cdv A outer s H vs Q E hr h => ?_)
  · obtain ⟨M, w, l, rfl, hw, hn, lw, ow, q⟩ := h; rfl
  · obtain ⟨M, w, l, rfl, hw, hn, lw, ow, q⟩ := h
    refine ⟨_, (pss_cons (ps_set (i := 1) sc__law_fraction.nd rfl (by first | exact Or.inl rfl | exact Or.inr rfl) (pe_ifExp (pt_val (pe_m1 PySem.F.slot_str_startswith PySem.F.type_str_startswith mt_startswith (pv 0) pe_str)) (pe_slice C8.sl_txt (pv 0) (po_some pe_int) po_none) (pv 0)))
      (pss_cons (ps_set (i := 2) sc__law_fraction.nd rfl (by first | exact Or.inl rfl | exact Or.inr rfl) (pe_split (pv 1) pe_str))
      (pss_cons (ps_par (i := 3) (j := 4) rfl sc__law_fraction.nd rfl rfl (by decide) rfl rfl (pa_cons (pe_cal G__law_number (hr.mono (by decide)) (by rfl) pass0 (pa_cons (pe_ix (ixSeq K) (pv 2) pe_int (fun _ _ => rfl)) pa_nil)) (pa_cons (pe_cal G__law_number (hr.mono (by decide)) (by rfl) pass0 (pa_cons (pe_ix (ixSeq K) (pv 2) (pe_un un_neg pe_int) (fun _ _ => rfl)) pa_nil)) pa_nil)) (by rfl))
      (pss_cons (ps_if (PW.pt (pw_or (pt_cmpR op_gt (pe_callB (callLenK K) (by rfl) z_len (by decide +kernel) (pa_cons (pv 2) pa_nil)) pe_int (nomark _)) (pw_or (pt_cmpR opIsN (pv 3) pe_non (nomark _)) (pw_or (pt_cmpR opIsN (pv 4) pe_non (nomark _)) (pw_or (PW.pt (pw_and (pt_cmpR (opEqK K hr.units) (pe_callB (callLenK K) (by rfl) z_len (by decide +kernel) (pa_cons (pv 2) pa_nil)) pe_int (nomark _)) (pw_and1 (pt_cmpR op_lt (pv 4) pe_int (nomark _))))) (pw_or1 (PW.pt (pw_and (pt_cmpR (opNeK K hr.units) (pv 1) (pv 0) (nomark _)) (pw_and1 (pt_cmpR (opEqK K hr.units) (pv 3) pe_int (nomark _))))))))))) (pss_one (ps_ret pe_non)) pss_nil)
      (pss_cons (ps_set (i := 4) sc__law_fraction.nd rfl (by first | exact Or.inl rfl | exact Or.inr rfl) (pe_ifExp (pt_cmpR (opEqK K hr.units) (pe_callB (callLenK K) (by rfl) z_len (by decide +kernel) (pa_cons (pv 2) pa_nil)) pe_int (nomark _)) (pv 4) pe_int))
      (pss_cons (ps_set (i := 5) sc__law_fraction.nd rfl (by first | exact Or.inl rfl | exact Or.inr rfl) (pe_tup (pa_cons (pe_ifExp (pt_cmpR (opEqK K hr.units) (pv 1) (pv 0) (nomark _)) (pv 3) (pe_op op_sub pe_int (pv 3))) (pa_cons (pv 4) pa_nil))))
      (pss_one (ps_ret (pe_ifExp (pt_cmpR (opEqK K hr.units) (pe_ix (ixSeq K) (pe_cal G__law_frac (hr.mono (by decide)) (by rfl) pass0 (pa_cons (pv 3) (pa_cons (pv 4) pa_nil))) pe_int (fun _ _ => rfl)) (pv 4) (nomark _)) (pv 5) pe_non))))))))), ?_⟩
    rw [st__law_fraction]
    try simp only [cxK, cxK2]

    obtain rfl : w = .str (SX.S l) := hw
    obtain ⟨bl, bm⟩ := bare_len l
    have big : ∀ {n : Nat}, n ≤ 100000 → n ≤ sizeLine := fun h => Nat.le_trans h (by decide)
    have cno : ∀ {H'}, fOf l = none → Same H H' → Q .non H' := fun e s => q _ _ s (by rw [e]; rfl)
    refine s_cut (fun σ' H' => σ' = [some (.str (SX.S l)), some (.str (SX.S (bare l))), none, none, none, none] ∧ H' = H) ?_ ?_
    · rintro σ1 H1 ⟨rfl, rfl⟩
      walk_at "my_go"
      refine ⟨_, rfl, ⟨_, rfl⟩, _, SX.S [47], rfl, by rw [tx_slash], rfl, by rw [SX.S_len]; exact big (by omega), ?_⟩
      rw [split_SP (by decide)]
      intro p hp
      have s1 : Same H1 (upd H1 p (.lst (((SP 47 (bare l)).map SX.S).map V.str))) := Same.upd_new hp
      have r1 := rS_txs (K := K) (ys := SP 47 (bare l)) ow hp
      generalize upd H1 p (.lst (((SP 47 (bare l)).map SX.S).map V.str)) = H2 at *
      have ow2 := ow.same s1
      have pl := SP_len 47 (bare l)
      have pn := SP_ne 47 (bare l)
      have lf := fun q => lf_of (l := l) (q := q)
      have mk1 := fun n => fOf_make1 (l := l) (n := n)
      have mk2 := fun n d => fOf_make2 (l := l) (n := n) (d := d)
      generalize SP 47 (bare l) = ps at *
      obtain ⟨k, hk⟩ : ∃ k, ps.length = k + 1 := ⟨ps.length - 1, by have := List.length_pos_iff.mpr pn; omega⟩
      have e0 : ps[0]? = some (ps.getD 0 []) := by rw [List.getD_eq_getElem?_getD, List.getElem?_eq_getElem (by omega)]; rfl
      have ek : ps[k]? = some (ps.getD k []) := by rw [List.getD_eq_getElem?_getD, List.getElem?_eq_getElem (by omega)]; rfl
      have b0 := pl.2 _ (List.mem_of_getElem? e0)
      have bk := pl.2 _ (List.mem_of_getElem? ek)
      walk_at "my_go"
      refine s_ixL (j := 0) r1.l e0 (ixN_nat (j := 0) (by omega)) ?_
      intro y0 q0
      walk_at "my_go"
      refine c_lnum q0 (by omega) (fun c hc => lw c (bm c (b0.2.2 c hc))) ow2 ?_
      intro H3 s3
      walk_at "my_go"
      refine s_ixL (j := k) (Rp.same s3 r1.l) ek (by rw [hk]; unfold ixN; simp; omega) ?_
      intro yk qk
      walk_at "my_go"
      refine c_lnum qk (by omega) (fun c hc => lw c (bm c (bk.2.2 c hc))) (ow2.same s3) ?_
      intro H4 s4
      refine ⟨_, _, rfl, ?_⟩
      have s14 := (s1.trans s3).trans s4
      have r4 : rL rTx K M H4 (.ref p) ps := Rp.same (s3.trans s4) r1.l
      have ow4 := ow.same s14
      walk_at "my_gom"
      refine mark_cut (fun σ' H' => H' = H4 ∧ ∃ n d : Nat, σ' = [some (.str (SX.S l)), some (.str (SX.S (bare l))), some (.ref p), some (.int n), some (.int d), none] ∧ numO (ps.getD 0 []) = some n ∧ numO (ps.getD k []) = some d ∧ ps.length ≤ 2 ∧ (ps.length = 2 → 2 ≤ d) ∧ (l[0]? = some 45 → n ≠ 0)) ?_ ?_
      · rintro σ5 H5 ⟨rfl, n, d, rfl, h0, hK, h2, h3, h4⟩
        obtain ⟨e0', n60⟩ := numO_some.mp h0
        obtain ⟨eK', d60⟩ := numO_some.mp hK
        refine s_cut (fun σ' H' => H' = H5 ∧ ∃ m : Nat, σ' = [some (.str (SX.S l)), some (.str (SX.S (bare l))), some (.ref p), some (.int n), some (.int m), none] ∧ (ps.length = 2 ∧ m = d ∨ ps.length = 1 ∧ m = 1)) ?_ ?_
        · rintro σ6 H6 ⟨rfl, m, rfl, hm⟩
          have m1 : 1 ≤ m ∧ m < 10 ^ 60 := by
            rcases hm with ⟨a, rfl⟩ | ⟨a, rfl⟩
            · exact ⟨Nat.le_trans (by decide) (h3 a), d60⟩
            · exact ⟨Nat.le_refl _, by decide⟩
          refine s_cut (fun σ' H' => ∃ v : V, σ' = [some (.str (SX.S l)), some (.str (SX.S (bare l))), some (.ref p), some (.int n), some (.int m), some v] ∧ Same H6 H' ∧ (Nat.gcd n m = 1 → rFr K M H' v ((sg l n : Rat) / ((m : Int) : Rat)))) ?_ ?_
          · rintro σ7 H7 ⟨v, rfl, s7, r7⟩
            have bm' : Bd 200 (m : Int) := by unfold Bd; omega
            have bn' : Bd 200 (n : Int) := by unfold Bd; omega
            have m0 : (m : Int) ≠ 0 := by omega
            have ow7 := ow4.same s7
            walk_at "my_go"
            rename_i v8 H8 s8 r8
            by_cases hg : Nat.gcd n m = 1
            · rw [decide_eq_true ((den_same m1.1).mpr hg)]
              walk_at "my_go"
              have ef : fOf l = some ((sg l n : Rat) / ((m : Int) : Rat)) := by
                rcases hm with ⟨a, rfl⟩ | ⟨a, rfl⟩
                · obtain rfl : k = 1 := by omega
                  refine mk2 n m ?_ n60 m1.2 (h3 a) hg
                  match ps, a with
                  | [x, y], _ =>
                    have e0' : x = TL.numL n := e0'
                    have eK' : y = TL.numL m := eK'
                    rw [e0', eK']
                · obtain rfl : k = 0 := by omega
                  have := mk1 n (by
                    match ps, a with
                    | [x], _ =>
                      have e0' : x = TL.numL n := e0'
                      rw [e0']) n60 h4
                  rw [this]
                  congr 1
                  show _ = (sg l n : Rat) / ((1 : Int) : Rat)
                  grind
              refine q _ _ (s14.trans (s7.trans s8)) ?_
              rw [ef]
              exact Rp.same (R := rFr) s8 (r7 hg)
            · rw [decide_eq_false (fun z => hg ((den_same m1.1).mp z))]
              walk_at "my_go"
              refine cno ?_ (s14.trans (s7.trans s8))
              cases hf : fOf l with
              | none => rfl
              | some z =>
                obtain ⟨z1, z2, z3, z4, z5⟩ := lf z hf
                rw [h0] at z2
                have en := Option.some.inj z2
                refine absurd ?_ hg
                rcases hm with ⟨a, rfl⟩ | ⟨a, rfl⟩
                · obtain rfl : k = 1 := by omega
                  have := (z4 a).1
                  rw [hK] at this
                  rw [en, Option.some.inj this]
                  exact z.reduced
                · simp
          · intro N7 hN7
            walk_at "my_go"
            refine .inl ⟨rfl, ?_⟩
            have neqB : (V.str (SX.S (bare l)) = V.str (SX.S l)) ↔ ¬ l[0]? = some 45 := by
              rw [← bare_eq]
              exact ⟨fun z => SX.S_inj (V.str.inj z), fun z => by rw [z]⟩
            have fp : Nat.gcd n m = 1 → ((sg l n : Rat) / ((m : Int) : Rat)).num = sg l n ∧ (((sg l n : Rat) / ((m : Int) : Rat)).den : Int) = (m : Int) := fun g => fr_parts (by omega) (by rw [sg_abs]; simpa using g)
            have mk : ∀ i, i = sg l n → NewT [V.int i, V.int (m : Int)] H6 (fun x H1 => N7 [some (.str (SX.S l)), some (.str (SX.S (bare l))), some (.ref p), some (.int n), some (.int m), some x] H1) := fun i hi => by
              rw [hi]
              refine s_newT (K := K) ow4 (fun p7 H7 s7 _ t7 => ?_)
              exact hN7 _ _ ⟨_, rfl, s7, fun g => ⟨p7, rfl, by rw [(fp g).1, (fp g).2]; exact t7⟩⟩
            by_cases hs : l[0]? = some 45
            · rw [decide_eq_false (fun z => neqB.mp z hs)]
              refine ⟨_, rfl, ?_⟩
              rw [if_neg (by decide)]
              walk_at "my_go"
              refine mk _ ?_
              unfold sg
              rw [if_pos hs]
              omega
            · rw [decide_eq_true (neqB.mpr hs)]
              refine ⟨_, rfl, ?_⟩
              rw [if_pos (by decide)]
              walk_at "my_go"
              refine mk _ ?_
              unfold sg
              rw [if_neg hs]
        · intro N6 hN6
          walk_at "my_go"
          by_cases hl : ps.length = 2
          · rw [decide_eq_true (by omega)]
            walk_at "my_go"
            exact hN6 _ _ ⟨rfl, d, rfl, .inl ⟨hl, rfl⟩⟩
          · rw [decide_eq_false (by omega)]
            walk_at "my_go"
            exact hN6 _ _ ⟨rfl, 1, rfl, .inr ⟨by omega, rfl⟩⟩
      intro N5 hN5
      walk_at "my_go"
      by_cases h2 : 2 < ps.length
      · rw [decide_eq_true (by omega)]
        walk_at "my_go"
        refine cno ?_ s14
        cases hf : fOf l with
        | none => rfl
        | some z => have := (lf z hf).1; omega
      rw [decide_eq_false (by omega)]
      cases h0 : numO (ps.getD 0 []) with
      | none =>
        simp only [optV]
        walk_at "my_go"
        refine cno ?_ s14
        cases hf : fOf l with
        | none => rfl
        | some z => have := (lf z hf).2.1; rw [h0] at this; cases this
      | some n =>
        have lfn : ∀ z, fOf l = some z → n = z.num.natAbs := fun z hf => by
          have := (lf z hf).2.1
          rw [h0] at this
          exact Option.some.inj this
        cases hK : numO (ps.getD k []) with
        | none =>
          simp only [optV]
          walk_at "my_go"
          refine cno ?_ s14
          cases hf : fOf l with
          | none => rfl
          | some z =>
            have := lf z hf
            by_cases k0 : k = 0
            · subst k0; rw [h0] at hK; cases hK
            · obtain rfl : k = 1 := by omega
              have := (this.2.2.2.1 (by omega)).1
              rw [hK] at this
              cases this
        | some d =>
          simp only [optV]
          walk_at "my_go"
          have sgn : Q .non H4 ∧ l[0]? = some 45 ∧ n = 0 ∨ ¬ (l[0]? = some 45 ∧ n = 0) := by
            by_cases z : l[0]? = some 45 ∧ n = 0
            · refine .inl ⟨cno ?_ s14, z⟩
              cases hf : fOf l with
              | none => rfl
              | some y => exact absurd ((lfn y hf).symm.trans z.2) ((lf y hf).2.2.2.2 z.1)
            · exact .inr z
          have neqB : (V.str (SX.S (bare l)) = V.str (SX.S l)) ↔ ¬ l[0]? = some 45 := by
            rw [← bare_eq]
            exact ⟨fun z => SX.S_inj (V.str.inj z), fun z => by rw [z]⟩
          by_cases hl : ps.length = 2
          · obtain rfl : k = 1 := by omega
            by_cases hd2 : d < 2
            · rw [decide_eq_true (by omega)]
              walk_at "my_go"
              refine cno ?_ s14
              cases hf : fOf l with
              | none => rfl
              | some y =>
                have := (lf y hf).2.2.2.1 hl
                rw [hK] at this
                have := Option.some.inj this.1
                omega
            · rw [decide_eq_true (by omega)]
              walk_at "my_go"
              refine .inl ⟨rfl, ?_⟩
              by_cases hs : l[0]? = some 45
              · rw [decide_eq_false (fun z => neqB.mp z hs)]
                refine ⟨_, rfl, ?_⟩
                rw [if_pos (by decide)]
                walk_at "my_go"
                by_cases hn0 : n = 0
                · rw [decide_eq_true (by omega)]
                  walk_at "my_go"
                  rcases sgn with z | z
                  · exact z.1
                  · exact absurd ⟨hs, hn0⟩ z
                · rw [decide_eq_false (by omega)]
                  walk_at "my_go"
                  exact hN5 _ _ ⟨rfl, n, d, rfl, h0, hK, by omega, (fun _ => by omega), fun _ => hn0⟩
              · rw [decide_eq_true (neqB.mpr hs)]
                refine ⟨_, rfl, ?_⟩
                rw [if_neg (by decide)]
                walk_at "my_go"
                exact hN5 _ _ ⟨rfl, n, d, rfl, h0, hK, by omega, (fun _ => by omega), fun z => absurd z hs⟩
          · rw [decide_eq_false (by omega)]
            walk_at "my_go"
            refine .inl ⟨rfl, ?_⟩
            by_cases hs : l[0]? = some 45
            · rw [decide_eq_false (fun z => neqB.mp z hs)]
              refine ⟨_, rfl, ?_⟩
              rw [if_pos (by decide)]
              walk_at "my_go"
              by_cases hn0 : n = 0
              · rw [decide_eq_true (by omega)]
                walk_at "my_go"
                rcases sgn with z | z
                · exact z.1
                · exact absurd ⟨hs, hn0⟩ z
              · rw [decide_eq_false (by omega)]
                walk_at "my_go"
                exact hN5 _ _ ⟨rfl, n, d, rfl, h0, hK, by omega, (fun z => absurd z hl), fun _ => hn0⟩
            · rw [decide_eq_true (neqB.mpr hs)]
              refine ⟨_, rfl, ?_⟩
              rw [if_neg (by decide)]
              walk_at "my_go"
              exact hN5 _ _ ⟨rfl, n, d, rfl, h0, hK, by omega, (fun z => absurd z hl), fun z => absurd z hs⟩
    · intro N1 hN1
      walk_at "my_go"
      refine ⟨_, rfl, ⟨_, rfl⟩, _, SX.S [45], rfl, by rw [tx_minus], ?_⟩
      rw [starts_one]
      by_cases hn : l[0]? = some 45
      · rw [decide_eq_true hn]
        refine ⟨true, rfl, ?_⟩
        rw [if_pos rfl]
        have e1 : Txt.slice (SX.S l) (some 1) none = SX.S (bare l) := by rw [SX.slice_from (by decide)]; unfold bare; rw [if_pos hn]; rfl
        refine ⟨_, rfl, 1, rfl, _, rfl, by rw [SX.S_len]; exact big (by omega), ?_⟩
        rw [e1]
        exact hN1 _ _ ⟨rfl, rfl⟩
      · rw [decide_eq_false hn]
        refine ⟨false, rfl, ?_⟩
        rw [if_neg Bool.false_ne_true]
        walk_at "my_go"
        rw [bare_eq.mpr hn] at hN1
        exact hN1 _ _ ⟨rfl, rfl⟩
end
abbrev s__law_knots_read : Stmt := topS 48
theorem sc__law_knots_read : FnScope ["words", "found", "word", "parts", "part"] ["words"] (defScope s__law_knots_read) := ⟨rfl, rfl, rfl, by decide +kernel, rfl, by decide +kernel, by decide +kernel⟩
theorem st__law_knots_read {x0 : V} : L2.start ["words", "found", "word", "parts", "part"] [x0] = [some x0, none, none, none, none] := rfl

/-- the knot that a text stands for -/
noncomputable def kOf (l : List Nat) : Option Kn := match (SP 58 l).map fOf with
  | [some t, some x] => some (t, x)
  | _ => none
noncomputable def ksOf (ws : List (List Nat)) : Option (List Kn) := if ws = [] ∨ none ∈ ws.map kOf then none else some (ws.filterMap kOf)
theorem kOf_some {l : List Nat} {k : Kn} (h : kOf l = some k) : (SP 58 l).map fOf = [some k.1, some k.2] ∧ D60 k.1 ∧ D60 k.2 := by
  unfold kOf at h
  split at h
  · rename_i t x e
    cases h
    refine ⟨e, ?_⟩
    have m : ∀ q, some q ∈ (SP 58 l).map fOf → D60 q := fun q hq => by
      obtain ⟨w, _, hw⟩ := List.mem_map.mp hq
      exact (fOf_spec hw).1
    exact ⟨m t (by rw [e]; simp), m x (by rw [e]; simp)⟩
  · cases h
def optD {α : Type} {A : Rp α} [i : Eqd A] : Option α → PyData
  | none => .none
  | some a => i.d a
instance {α : Type} {A : Rp α} [i : Eqd A] : Eqd (rOp A) := ⟨fun o => optD (A := A) o, fun {_ _ _ _ a} h => match a, h with
  | none, h => by cases h; exact .non
  | some _, h => i.dp h, fun a => match a with
  | none => rfl
  | some a => i.sh a, i.dep, fun a => match a with
  | none => Nat.zero_le _
  | some a => i.de a⟩
theorem any_none {α : Type} {A : Rp α} [i : Eqd A] (hA : ∀ a, PyData.eqv (i.d a) .none = false) (os : List (Option α)) : ((os.map (inferInstance : Eqd (rOp A)).d).any fun z => PyData.eqv z .none) = os.any Option.isNone := by
  induction os with
  | nil => rfl
  | cons o os ih =>
    rw [List.map_cons, List.any_cons, List.any_cons, ih]
    congr 1
    cases o with
    | none => show PyData.eqv .none .none = true; rw [PyData.eqv]
    | some a => exact hA a
theorem eqv_tup (ds : List PyData) : PyData.eqv (.tuple ds) .none = false := by
  rw [PyData.eqv]
  all_goals (intros; simp_all)
theorem s_inNon {α : Type} {A : Rp α} [Mono A] [i : Eqd A] {K : Fg} {M : Ms} {H : Hp} {y : V} {os : List (Option α)} {Q : VK} (hA : ∀ a, PyData.eqv (i.d a) .none = false) (hd : i.dep ≤ 60) (hy : rL (rOp A) K M H y os) (q : Q (.bl (os.any Option.isNone)) H) : rInD K .non y H Q := by
  refine ⟨.none, os.map (inferInstance : Eqd (rOp A)).d, .non, (inferInstance : Eqd (rL (rOp A))).dp hy, rfl, shaped_of (R := rL (rOp A)) (show i.dep + 1 ≤ 64 from Nat.le_trans (Nat.succ_le_succ hd) (by decide)) os, ?_⟩
  rw [any_none hA]
  exact q
theorem kOf_none {l : List Nat} (h : (SP 58 l).length ≠ 2 ∨ ((SP 58 l).map fOf).any Option.isNone = true) : kOf l = none := by
  cases hk : kOf l with
  | none => rfl
  | some k =>
    have e := (kOf_some hk).1
    rcases h with h | h
    · have := congrArg List.length e
      rw [List.length_map] at this
      exact absurd this h
    · rw [e] at h
      simp at h
theorem kOf_make {l : List Nat} (h2 : (SP 58 l).length = 2) (h : ((SP 58 l).map fOf).any Option.isNone = false) : ∃ k, kOf l = some k ∧ (SP 58 l).map fOf = [some k.1, some k.2] := by
  unfold kOf
  match hs : (SP 58 l).map fOf with
  | [] => have := congrArg List.length hs; rw [List.length_map, h2] at this; simp at this
  | [_] => have := congrArg List.length hs; rw [List.length_map, h2] at this; simp at this
  | _ :: _ :: _ :: _ => have := congrArg List.length hs; rw [List.length_map, h2] at this; simp at this
  | [some t, some x] => exact ⟨(t, x), rfl, rfl⟩
  | [none, _] => rw [hs] at h; simp at h
  | [some _, none] => rw [hs] at h; simp at h
def sp_lkr (K : Fg) : Sp := fun vs H Q _ => ∃ (M : Ms) (v : V) (ws : List (List Nat)), vs = [v] ∧ rL rTx K M H v ws ∧ ws.length ≤ 90000 ∧ (∀ w ∈ ws, w.length ≤ 90000 ∧ Low w) ∧ Own M H ∧ ∀ v' H', Same H H' → rOp (rS rKn) K M H' v' (ksOf ws) → Q v' H'
theorem c_lkr {K : Fg} {M : Ms} {H : Hp} {Q : VK} {E : XK} {v : V} {ws : List (List Nat)} (h : rL rTx K M H v ws) (hn : ws.length ≤ 90000) (lw : ∀ w ∈ ws, w.length ≤ 90000 ∧ Low w) (ow : Own M H) (q : ∀ v' H', Same H H' → rOp (rS rKn) K M H' v' (ksOf ws) → Q v' H') : sp_lkr K ([v] ++ []) H Q E := ⟨M, v, ws, rfl, h, hn, lw, ow, q⟩
section
variable {P : Program} {w : World} {K : PySem.W.Frag} {mg : Str → Option Value} {base : Heap}
theorem ok__law_knots_read {f : Addr} {fd : FuncData} (F : Fun K "_law_knots_read" "_law_knots_read" s__law_knots_read f fd) (G__law_fraction : Cal P w K mg base CX0 2 "_law_fraction" ["text"] [] (sp_lfrac K)) (z_len : mg "len" = none) : FnOk P w K mg base CX0 3 f fd ["words"] (sp_lkr K) := by
  refine F.ok (k := 2) sc__law_knots_read (fun vs H Q E h => ?_) (fun cdv A outer s H vs Q E hr h => ?_)
  · obtain ⟨M, v, ws, rfl, h, hn, lw, ow, q⟩ := h; rfl
  · obtain ⟨M, v, ws, rfl, h, hn, lw, ow, q⟩ := h
    refine ⟨_, (pss_cons (ps_set (i := 1) sc__law_knots_read.nd rfl (by first | exact Or.inl rfl | exact Or.inr rfl) (pe_lst pa_nil))
      (pss_cons (ps_for PassesOwn.never rfl (piListK K (pv 0)) (pg_name (i := 2) sc__law_knots_read.nd rfl (by first | exact Or.inl rfl | exact Or.inr rfl)) (pss_cons (ps_setLc (i := 3) (own := [("part", 4)]) rfl sc__law_knots_read.nd rfl rfl (sw_true rfl rfl rfl (by decide +kernel)) (piListK K (pe_split (pv 2) pe_str)) (blkOk_by (own := [("part", 4)]) (N := ["words", "found", "word", "parts", "part"]) (sc := defScope s__law_knots_read) (by decide +kernel)) (fun _ _ _ _ _ => (pg_name (i := 4) sc__law_knots_read.nd rfl (by first | exact Or.inl rfl | exact Or.inr rfl))) (fun _ _ _ _ _ => pts_nil) (fun _ _ _ _ _ => (pe_cal G__law_fraction (hr.mono (by decide)) (by rfl) pass0 (pa_cons (pv 4) pa_nil))))
      (pss_cons (ps_if (PW.pt (pw_or (pt_cmpR (opNeK K hr.units) (pe_callB (callLenK K) (by rfl) z_len (by decide +kernel) (pa_cons (pv 3) pa_nil)) pe_int (nomark _)) (pw_or1 (pt_cmpR (opInDK K (hu65 hr)) pe_non (pv 3) (by rfl))))) (pss_one (ps_ret pe_non)) pss_nil)
      (pss_one (ps_expr (pe_bm PySem.F.plainAttrs_list PySem.F.slot_list_append PySem.F.type_list_append mt_append (pv 1) (pa_cons (pe_tup (pa_cons (pe_ix (ixSeq K) (pv 3) pe_int (fun _ _ => rfl)) (pa_cons (pe_ix (ixSeq K) (pv 3) pe_int (fun _ _ => rfl)) pa_nil))) pa_nil)))))))
      (pss_one (ps_ret (pe_ifExp (pt_cmpR (opNeK K hr.units) (pv 1) (pe_lst pa_nil) (nomark _)) (pv 1) pe_non))))), ?_⟩
    rw [st__law_knots_read]
    try simp only [cxK, cxK2]

    walk_at "my_go"
    refine ⟨Nat.zero_le _, fun r nr => ?_⟩
    have s1 : Same H (upd H r (.lst [])) := Same.upd_new nr
    have g1 : Bl rKn K M r (upd H r (.lst [])) [] := Bl.new nr
    have rr : ¬ M r := ow.fresh nr
    have ow1 : Own (mIn M r) (upd H r (.lst [])) := ow.inside s1 upd_same
    have h1 : rL rTx K (mIn M r) (upd H r (.lst [])) v ws := Rp.inw nr s1 h
    generalize upd H r (.lst []) = H1 at *
    walk_at "my_go"
    have big : ∀ {n : Nat}, n ≤ 100000 → n ≤ sizeLine := fun h => Nat.le_trans h (by decide)
    refine forI_by (A := rTx) (M := mIn M r) h1 (fun i σ H3 => ∃ (ks : List Kn) (o2 o3 o4 : Option V), σ = [some v, some (.ref r), o2, o3, o4] ∧ Same H H3 ∧ Own (mIn M r) H3 ∧ rL rTx K (mIn M r) H3 v ws ∧ Bl rKn K M r H3 ks ∧ (ws.take i).map kOf = ks.map some) ⟨[], _, _, _, rfl, s1, ow1, h1, g1, rfl⟩ ?_ ?_ ?_
    · rintro i σ H3 ⟨us, o2, o3, o4, rfl, s3, ow3, h3, _⟩
      exact h3
    · rintro i w vw σ H3 N hi ⟨ks, o2, o3, o4, rfl, s3, ow3, h3, g3, eks⟩ rw' hk
      obtain rfl : vw = .str (SX.S w) := rw'
      obtain ⟨lw1, lw2⟩ := lw w (List.mem_of_getElem? hi)
      have pl := SP_len 58 w
      walk_at "my_go"
      refine ⟨_, rfl, ⟨_, rfl⟩, _, SX.S [58], rfl, by rw [tx_colon], rfl, by rw [SX.S_len]; exact big (by omega), ?_⟩
      rw [split_SP (by decide)]
      intro p hp
      have s4 : Same H3 (upd H3 p (.lst (((SP 58 w).map SX.S).map V.str))) := Same.upd_new hp
      have r4 := rS_txs (K := K) (ys := SP 58 w) ow3 hp
      generalize upd H3 p (.lst (((SP 58 w).map SX.S).map V.str)) = H4 at *
      have ow4 := ow3.same s4
      walk_at "my_go"
      refine lc_map (A := rTx) (B := rOp rFr) (M := mIn M r) (SP 58 w) (fun _ => true) fOf r4.l ow4 (by omega) ?_ ?_
      · rintro i5 q5 vq M' H5 Z N5 hi5 ht hw2 rq hZ hN
        have b5 := pl.2 _ (List.mem_of_getElem? hi5)
        walk_at "my_go"
        refine c_lfrac rq (by omega) (fun c hc => lw2 c (b5.2.2 c hc)) hw2 ?_
        intro v6 H6 s6 r6
        exact hZ rfl _ _ s6 r6
      intro D5 vs5 H5 f5 s5 e5 p5 r5
      rw [List.filter_eq_self.mpr (fun _ _ => rfl)] at r5
      have kn : ∀ k, kOf w = none → Same H H5 → k = V.non → Q k H5 := fun k e z ek => by
        subst ek
        refine q _ _ z ?_
        have : ksOf ws = none := by
          unfold ksOf
          rw [if_pos (.inr (List.mem_map.mpr ⟨w, List.mem_of_getElem? hi, e⟩))]
        rw [this]
        rfl
      have s15 := (s3.trans s4).trans s5
      have ow5 := ow4.same s5
      walk_at "my_go"
      by_cases l2 : ((SP 58 w).map fOf).length = 2
      · rw [decide_eq_true (by omega)]
        walk_at "my_go"
        refine s_inNon (A := rFr) (os := (SP 58 w).map fOf) (fun a => eqv_tup _) (by decide) r5 ?_
        cases ha : ((SP 58 w).map fOf).any Option.isNone
        · walk_at "my_go"
          rw [List.length_map] at l2
          obtain ⟨k, ek, em⟩ := kOf_make l2 ha
          rw [em] at r5
          refine ⟨s_tyB (((g3.same s4).same s5)), ?_⟩
          walk_at "my_go"
          refine s_ixL (j := 0) r5 rfl (ixN_nat (j := 0) (by simp)) ?_
          intro y6 r6
          walk_at "my_go"
          refine s_ixL (j := 1) r5 rfl (ixN_nat (j := 1) (by simp)) ?_
          intro y7 r7
          walk_at "my_go"
          refine s_newT2 (A := rFr) (B := rFr) ow5 r6 r7 ?_
          intro p8 H8 s8 ow8 r8
          walk_at "my_go"
          have el := congrArg List.length eks
          rw [List.length_map, List.length_map, List.length_take] at el
          refine s_push (A := rKn) (((g3.same s4).same s5).same s8) r8 ow8 (by omega) ?_
          intro H9 k9 t9 ow9 g9
          refine hk _ _ ⟨ks ++ [k], _, _, _, rfl, Same.push (s15.trans s8) nr k9, ow9, Mono.mono t9 (Rp.same (s4.trans (s5.trans s8)) h3), g9, ?_⟩
          rw [List.take_succ, hi, List.map_append, eks, List.map_append]
          show _ ++ [kOf w] = _
          rw [ek]
          rfl
        · walk_at "my_go"
          exact kn _ (kOf_none (.inr ha)) s15 rfl
      · rw [decide_eq_false (by omega)]
        walk_at "my_go"
        exact kn _ (kOf_none (.inl (by rw [List.length_map] at l2; exact l2))) s15 rfl
    · rintro σ H3 ⟨ks, o2, o3, o4, rfl, s3, ow3, h3, g3, eks⟩
      rw [List.take_length] at eks
      have fin : ksOf ws = if ks = [] then none else some ks := by
        unfold ksOf
        have e1 : ws.filterMap kOf = ks := by
          have := congrArg (List.filterMap id) eks
          rw [List.filterMap_map, List.filterMap_map] at this
          exact this.trans (by simp)
        have e2 : ¬ none ∈ ws.map kOf := by rw [eks]; simp
        have e3 : ws = [] ↔ ks = [] := by
          have := congrArg List.length eks
          rw [List.length_map, List.length_map] at this
          constructor
          · rintro rfl; exact List.eq_nil_of_length_eq_zero this.symm
          · rintro rfl; exact List.eq_nil_of_length_eq_zero this
        rw [e1]
        by_cases z : ks = []
        · rw [if_pos z, if_pos (.inl (e3.mpr z))]
        · rw [if_neg z, if_neg (fun y => y.elim (fun y => z (e3.mp y)) e2)]
      walk_at "my_go"
      refine s_newL (A := rKn) (K := K) (M := M) (as := []) (ow.same s3) (by decide) .nil ?_
      intro v4 H4 s4 r4
      have rd : rS rKn K M H4 (.ref r) ks := Rp.same s4 (g3.done rr)
      refine s_neD (A := rL rKn) rd.l r4 ?_
      by_cases z : ks = []
      · rw [decide_eq_true z]
        rw [if_pos z] at fin
        walk_at "my_go"
        refine q _ _ (s3.trans s4) ?_
        rw [fin]
        rfl
      · rw [decide_eq_false z]
        rw [if_neg z] at fin
        walk_at "my_go"
        refine q _ _ (s3.trans s4) ?_
        rw [fin]
        exact rd
end
abbrev s__law_due : Stmt := topS 51
theorem sc__law_due : FnScope ["text", "knots", "times", "knot"] ["text"] (defScope s__law_due) := ⟨rfl, rfl, rfl, by decide +kernel, rfl, by decide +kernel, by decide +kernel⟩
theorem st__law_due {x0 : V} : L2.start ["text", "knots", "times", "knot"] [x0] = [some x0, none, none, none] := rfl

open Classical in
/-- what a text of rows stands for: the answers -/
noncomputable def dueOf (l : List Nat) : Sum (List Kn) (List Nat) := match ksOf (SP 32 l) with
  | none => .inr [116, 101, 120, 116, 48]
  | some ks => if Rise (ks.map (·.1)) ∧ ks.length < 41 then .inl ks else .inr [116, 97, 98, 108, 101]
def rSum {α β : Type} (A : Rp α) (B : Rp β) : Rp (Sum α β) := fun K M H v s => match s with
  | .inl a => A K M H v a
  | .inr b => B K M H v b
instance {α β : Type} {A : Rp α} {B : Rp β} [i : Mono A] [j : Mono B] : Mono (rSum A B) := ⟨fun {_ _ _ _ _ _ a} t h => match a, h with
  | .inl _, h => i.mono t h
  | .inr _, h => j.mono t h⟩
theorem ksOf_d60 {ws : List (List Nat)} {ks : List Kn} (h : ksOf ws = some ks) : ks.length ≤ ws.length ∧ ∀ k ∈ ks, D60 k.1 ∧ D60 k.2 := by
  unfold ksOf at h
  split at h
  · cases h
  · cases h
    refine ⟨List.length_filterMap_le .., fun k hk => ?_⟩
    obtain ⟨w, _, e⟩ := List.mem_filterMap.mp hk
    exact (kOf_some e).2
theorem tx_t0 : Str.ofString "text0" = SX.S [116, 101, 120, 116, 48] := by decide +kernel
theorem tx_table : Str.ofString "table" = SX.S [116, 97, 98, 108, 101] := by decide +kernel
def sp_due (K : Fg) : Sp := fun vs H Q _ => ∃ (M : Ms) (w : V) (l : List Nat), vs = [w] ∧ rTx K M H w l ∧ l.length ≤ 85000 ∧ Low l ∧ Own M H ∧ ∀ v H', Same H H' → rSum (rS rKn) rTx K M H' v (dueOf l) → Q v H'
theorem c_due {K : Fg} {M : Ms} {H : Hp} {Q : VK} {E : XK} {w : V} {l : List Nat} (h : rTx K M H w l) (hn : l.length ≤ 85000) (lw : Low l) (ow : Own M H) (q : ∀ v H', Same H H' → rSum (rS rKn) rTx K M H' v (dueOf l) → Q v H') : sp_due K ([w] ++ []) H Q E := ⟨M, w, l, rfl, h, hn, lw, ow, q⟩
section
variable {P : Program} {w : World} {K : PySem.W.Frag} {mg : Str → Option Value} {base : Heap}
theorem ok__law_due {f : Addr} {fd : FuncData} (F : Fun K "_law_due" "_law_due" s__law_due f fd) (G__law_in_order : Cal P w K mg base CX0 2 "_law_in_order" ["times"] [] (sp_inOrder K)) (G__law_knots_read : Cal P w K mg base CX0 3 "_law_knots_read" ["words"] [] (sp_lkr K)) (z_isinstance : mg "isinstance" = none) (z_len : mg "len" = none) (z_str : mg "str" = none) : FnOk P w K mg base CX0 4 f fd ["text"] (sp_due K) := by
  refine F.ok (k := 3) sc__law_due (fun vs H Q E h => ?_) (fun cdv A outer s H vs Q E hr h => ?_)
  · obtain ⟨M, w, l, rfl, hw, hn, lw, ow, q⟩ := h; rfl
  · obtain ⟨M, w, l, rfl, hw, hn, lw, ow, q⟩ := h
    refine ⟨_, (pss_cons (ps_set (i := 1) sc__law_due.nd rfl (by first | exact Or.inl rfl | exact Or.inr rfl) (pe_ifExp (pt_val (pe_callB (callIsiK K) (by rfl) z_isinstance (by decide +kernel) (pa_cons (pv 0) (pa_cons (pe_bltn (v := .ty "str") (by rfl) z_str (by decide +kernel) rfl) pa_nil)))) (pe_cal G__law_knots_read (hr.mono (by decide)) (by rfl) pass0 (pa_cons (pe_split (pv 0) pe_str) pa_nil)) pe_non))
      (pss_cons (ps_if (pt_cmpR opIsN (pv 1) pe_non (nomark _)) (pss_one (ps_ret pe_str)) pss_nil)
      (pss_cons (ps_setLc (i := 2) (own := [("knot", 3)]) rfl sc__law_due.nd rfl rfl (sw_true rfl rfl rfl (by decide +kernel)) (piListK K (pv 1)) (blkOk_by (own := [("knot", 3)]) (N := ["text", "knots", "times", "knot"]) (sc := defScope s__law_due) (by decide +kernel)) (fun _ _ _ _ _ => (pg_name (i := 3) sc__law_due.nd rfl (by first | exact Or.inl rfl | exact Or.inr rfl))) (fun _ _ _ _ _ => pts_nil) (fun _ _ _ _ _ => (pe_ix (ixSeq K) (pv 3) pe_int (fun _ _ => rfl))))
      (pss_one (ps_ret (pe_ifExp (PW.pt (pw_and (pt_cmpR (opEqK K hr.units) (pe_cal G__law_in_order (hr.mono (by decide)) (by rfl) pass0 (pa_cons (pv 2) pa_nil)) (pv 2) (nomark _)) (pw_and1 (pt_cmpR op_lt (pe_callB (callLenK K) (by rfl) z_len (by decide +kernel) (pa_cons (pv 2) pa_nil)) pe_int (nomark _))))) (pv 1) pe_str)))))), ?_⟩
    rw [st__law_due]
    try simp only [cxK, cxK2]

    obtain rfl : w = .str (SX.S l) := hw
    have big : ∀ {n : Nat}, n ≤ 100000 → n ≤ sizeLine := fun h => Nat.le_trans h (by decide)
    have pl := SP_len 32 l
    walk_at "my_go"
    refine s_isi (.base (.str _)) (show kitB "str" "str" = some true by decide +kernel) ?_
    walk_at "my_go"
    refine ⟨_, rfl, ⟨_, rfl⟩, _, SX.S [32], rfl, by rw [tx_blank], rfl, by rw [SX.S_len]; exact big (by omega), ?_⟩
    rw [split_SP (by decide)]
    intro p hp
    have s1 : Same H (upd H p (.lst (((SP 32 l).map SX.S).map V.str))) := Same.upd_new hp
    have r1 := rS_txs (K := K) (ys := SP 32 l) ow hp
    generalize upd H p (.lst (((SP 32 l).map SX.S).map V.str)) = H1 at *
    have ow1 := ow.same s1
    walk_at "my_go"
    refine c_lkr r1.l (by omega) (fun x hx => by
      have := pl.2 x hx
      exact ⟨by omega, fun c hc => lw c (this.2.2 c hc)⟩) ow1 ?_
    intro v2 H2 s2 r2
    have s12 := s1.trans s2
    have ow2 := ow1.same s2
    unfold dueOf at q
    cases hk : ksOf (SP 32 l) with
    | none =>
      rw [hk] at r2 q
      obtain rfl : v2 = .non := r2
      walk_at "my_go"
      refine q _ _ s12 ?_
      exact congrArg V.str tx_t0
    | some ks =>
      rw [hk] at r2 q
      have r2 : rS rKn K M H2 v2 ks := r2
      obtain ⟨kl, kd⟩ := ksOf_d60 hk
      dsimp only at q
      obtain ⟨p2, vs2, rfl, t2, pr2⟩ := id r2
      walk_at "my_go"
      refine lc_map (A := rKn) (B := rFr) (M := M) ks (fun _ => true) (fun k => k.1) r2.l ow2 (by omega) ?_ ?_
      · rintro i k vk M' H3 Z N hi ht hw2 rk hZ hN
        walk_at "my_go"
        rename_i y1 q1
        exact hZ rfl _ _ (Same.refl _) q1
      intro D3 vs3 H3 f3 s3 e3 p3 r3
      rw [List.filter_eq_self.mpr (fun _ _ => rfl)] at r3
      have ow3 := ow2.same s3
      have s13 := s12.trans s3
      have dt : ∀ t ∈ ks.map (fun k => k.1), D60 t := fun t ht => by
        obtain ⟨k, hk, rfl⟩ := List.mem_map.mp ht
        exact (kd k hk).1
      walk_at "my_go"
      refine c_inOrder r3 (by rw [List.length_map]; omega) dt ow3 ?_
      intro v4 us H4 s4 r4 _ _ ri req du
      walk_at "my_go"
      refine s_eqLFr r4.l (Rp.same s4 r3) ?_
      have s14 := s13.trans s4
      have ri2 : us = ks.map (fun k => k.1) ↔ Rise (ks.map (fun k => k.1)) := ⟨fun z => z ▸ ri, fun z => req z⟩
      by_cases hr1 : Rise (ks.map (fun k => k.1))
      · rw [decide_eq_true (ri2.mpr hr1)]
        walk_at "my_go"
        refine s_len (Rp.same s4 r3) ?_
        walk_at "my_go"
        by_cases h41 : ks.length < 41
        · rw [decide_eq_true (by rw [List.length_map]; omega)]
          walk_at "my_go"
          refine q _ _ s14 ?_
          rw [if_pos ⟨hr1, h41⟩]
          exact Rp.same (R := rS rKn) (s3.trans s4) r2
        · rw [decide_eq_false (by rw [List.length_map]; omega)]
          walk_at "my_go"
          refine q _ _ s14 ?_
          rw [if_neg (fun z => h41 z.2)]
          exact congrArg V.str tx_table
      · rw [decide_eq_false (fun z => hr1 (ri2.mp z))]
        walk_at "my_go"
        refine q _ _ s14 ?_
        rw [if_neg (fun z => hr1 z.1)]
        exact congrArg V.str tx_table
end
abbrev s_Timetable_knots : Stmt := inClass (topS 24) 4
theorem sc_Timetable_knots : FnScope ["self"] ["self"] (defScope s_Timetable_knots) := ⟨rfl, rfl, rfl, by decide +kernel, rfl, by decide +kernel, by decide +kernel⟩
theorem st_Timetable_knots {x0 : V} : L2.start ["self"] [x0] = [some x0] := rfl

def sp_knots (C : Addr) (K : Fg) : Sp := fun vs H Q _ => ∃ (M : Ms) (x : V) (ks : List Kn), vs = [x] ∧ rTt C K M H x ks ∧ Own M H ∧ ∀ y H', Same H H' → rKs K M H' y ks → Q y H'
theorem c_knots {C : Addr} {K : Fg} {M : Ms} {H : Hp} {Q : VK} {E : XK} {x : V} {ks : List Kn} (h : rTt C K M H x ks) (ow : Own M H) (q : ∀ y H', Same H H' → rKs K M H' y ks → Q y H') : sp_knots C K (x :: ([] ++ [])) H Q E := ⟨M, x, ks, rfl, h, ow, q⟩
local macro_rules | `(tactic| walk_at "my_call") => `(tactic| ((with_reducible apply c_knots); (case h => walk_at "my_tr"); (case ow => walk_at "my_tr"); intro _ _ _ _))
section
variable {P : Program} {w : World} {K : PySem.W.Frag} {mg : Str → Option Value} {base : Heap}
theorem ok_Timetable_knots {C : Addr} {f : Addr} {fd : FuncData} (F : Fun K "knots" "Timetable.knots" s_Timetable_knots f fd) (TC : TtC K mg C) (z_list : mg "list" = none) : FnOk P w K mg base CX0 1 f fd ["self"] (sp_knots C K) := by
  refine F.ok (k := 0) sc_Timetable_knots (fun vs H Q E h => ?_) (fun cdv A outer s H vs Q E hr h => ?_)
  · obtain ⟨M, x, ks, rfl, h, ow, q⟩ := h; rfl
  · obtain ⟨M, x, ks, rfl, h, ow, q⟩ := h
    refine ⟨_, (pss_one (ps_ret (pe_callTy (callListK K) (by rfl) z_list (by decide +kernel) (pa_cons (peFldK K (pv 0)) pa_nil)))), ?_⟩
    rw [st_Timetable_knots]
    try simp only [cxK, cxK2]

    walk_at "my_go"
    rename_i y r
    refine s_listC (A := rKn) r ow ?_
    intro lk vs H2 n2 s2 e2 pr2 r2
    exact q _ _ s2 r2
end
abbrev s_is_whole : Stmt := topS 9
theorem sc_is_whole : FnScope ["value"] ["value"] (defScope s_is_whole) := ⟨rfl, rfl, rfl, by decide +kernel, rfl, by decide +kernel, by decide +kernel⟩
theorem st_is_whole {x0 : V} : L2.start ["value"] [x0] = [some x0] := rfl

section
variable {P : Program} {w : World} {K : PySem.W.Frag} {mg : Str → Option Value} {base : Heap}
theorem ok_is_whole {f : Addr} {fd : FuncData} (F : Fun K "is_whole" "is_whole" s_is_whole f fd) (z_bool : mg "bool" = none) (z_int : mg "int" = none) (z_isinstance : mg "isinstance" = none) : FnOk P w K mg base CX0 1 f fd ["value"] (sp_whole K) := by
  refine F.ok (k := 0) sc_is_whole (fun vs H Q E h => ?_) (fun cdv A outer s H vs Q E hr h => ?_)
  · obtain ⟨M, v, o, rfl, hv, q⟩ := h; rfl
  · obtain ⟨M, v, o, rfl, hv, q⟩ := h
    refine ⟨_, (pss_one (ps_ret (pe_and (pe_callB (callIsiK K) (by rfl) z_isinstance (by decide +kernel) (pa_cons (pv 0) (pa_cons (pe_bltn (v := .ty "int") (by rfl) z_int (by decide +kernel) rfl) pa_nil))) (pe_one (pe_not (pe_callB (callIsiK K) (by rfl) z_isinstance (by decide +kernel) (pa_cons (pv 0) (pa_cons (pe_bltn (v := .ty "bool") (by rfl) z_bool (by decide +kernel) rfl) pa_nil)))))))), ?_⟩
    rw [st_is_whole]
    try simp only [cxK, cxK2]

    walk_at "my_go"
    walk_at "my_sp"
    · rename_i h
      walk_at "my_go"
      rw [show (!o.isBl) = o.isInt by cases o <;> simp_all [Ob.isInt, Ob.isBl]]
      exact q
    · rename_i h
      rw [show o.isInt = false by cases o <;> simp_all [Ob.isInt, Ob.isBl]] at q
      exact q
end
abbrev s_is_fraction : Stmt := topS 10
theorem sc_is_fraction : FnScope ["value", "n", "d"] ["value"] (defScope s_is_fraction) := ⟨rfl, rfl, rfl, by decide +kernel, rfl, by decide +kernel, by decide +kernel⟩
theorem st_is_fraction {x0 : V} : L2.start ["value", "n", "d"] [x0] = [some x0, none, none] := rfl

def sp_isFrac (K : Fg) : Sp := fun vs H Q _ => ∃ (M : Ms) (v : V) (o : Ob), vs = [v] ∧ rOb K M H v o ∧ Q (.bl o.isFr) H
theorem c_isFrac {K : Fg} {M : Ms} {H : Hp} {Q : VK} {E : XK} {v : V} {o : Ob} (h : rOb K M H v o) (q : Q (.bl o.isFr) H) : sp_isFrac K ([v] ++ []) H Q E := ⟨M, v, o, rfl, h, q⟩
local macro_rules | `(tactic| walk_at "my_call") => `(tactic| ((with_reducible apply c_isFrac); (case h => walk_at "my_tr")))
theorem c_isFracR {K : Fg} {M : Ms} {H : Hp} {Q : VK} {E : XK} {v : V} {r : Rat} (h : rFr K M H v r) (q : Q (.bl true) H) : sp_isFrac K ([v] ++ []) H Q E := ⟨M, v, _, rfl, fr_ob h, by rw [isFr_rat]; exact q⟩
local macro_rules | `(tactic| walk_at "my_call") => `(tactic| ((with_reducible apply c_isFracR); (case h => walk_at "my_tr")))
section
variable {P : Program} {w : World} {K : PySem.W.Frag} {mg : Str → Option Value} {base : Heap}
theorem ok_is_fraction {f : Addr} {fd : FuncData} (F : Fun K "is_fraction" "is_fraction" s_is_fraction f fd) (G_is_whole : Cal P w K mg base CX0 1 "is_whole" ["value"] [] (sp_whole K)) (z_isinstance : mg "isinstance" = none) (z_len : mg "len" = none) (z_tuple : mg "tuple" = none) (m_gcd : mg "gcd" = some (.builtin "math.gcd")) : FnOk P w K mg base CX0 2 f fd ["value"] (sp_isFrac K) := by
  refine F.ok (k := 1) sc_is_fraction (fun vs H Q E h => ?_) (fun cdv A outer s H vs Q E hr h => ?_)
  · obtain ⟨M, v, o, rfl, hv, q⟩ := h; rfl
  · obtain ⟨M, v, o, rfl, hv, q⟩ := h
    refine ⟨_, (pss_cons (ps_if (PW.pt (pw_or (pt_not (pt_val (pe_callB (callIsiK K) (by rfl) z_isinstance (by decide +kernel) (pa_cons (pv 0) (pa_cons (pe_bltn (v := .ty "tuple") (by rfl) z_tuple (by decide +kernel) rfl) pa_nil))))) (pw_or1 (pt_cmpR (opNeK K hr.units) (pe_callB (callLenK K) (by rfl) z_len (by decide +kernel) (pa_cons (pv 0) pa_nil)) pe_int (nomark _))))) (pss_one (ps_ret pe_bl)) pss_nil)
      (pss_cons (ps_asg (pv 0) (pgTupK (n := 2) K rfl (pgs_cons (pg_name (i := 1) sc_is_fraction.nd rfl (by first | exact Or.inl rfl | exact Or.inr rfl)) (pgs_cons (pg_name (i := 2) sc_is_fraction.nd rfl (by first | exact Or.inl rfl | exact Or.inr rfl)) pgs_nil))))
      (pss_one (ps_ret (pe_and (pe_cal G_is_whole (hr.mono (by decide)) (by rfl) pass0 (pa_cons (pv 1) pa_nil)) (pe_and (pe_cal G_is_whole (hr.mono (by decide)) (by rfl) pass0 (pa_cons (pv 2) pa_nil)) (pe_and (pe_cmpR op_ge (pv 2) pe_int (nomark _)) (pe_one (pe_cmpR (opEqK K hr.units) (pe_callBfun cr_gcd (by rfl) m_gcd (pa_cons (pv 1) (pa_cons (pv 2) pa_nil))) pe_int (nomark _)))))))))), ?_⟩
    rw [st_is_fraction]
    try simp only [cxK, cxK2]

    walk_at "my_go"
    cases ht : o.isTup with
    | false =>
      walk_at "my_go"
      rw [show o.isFr = false by cases o <;> simp_all [Ob.isFr, Ob.isTup]] at q
      exact q
    | true =>
      obtain ⟨xs, rfl⟩ : ∃ xs, o = .tup xs := by cases o <;> simp_all [Ob.isTup]
      walk_at "my_go"
      walk_at "my_sp"
      · rename_i hl
        walk_at "my_go"
        rw [isFr_no (by omega)] at q
        exact q
      · rename_i hl
        obtain ⟨a, b, rfl⟩ : ∃ a b, xs = [a, b] := by
          match xs, hl with
          | [a, b], _ => exact ⟨a, b, rfl⟩
          | [], hl => simp at hl
          | [_], hl => simp at hl
          | _ :: _ :: _ :: _, hl => simp at hl; omega
        obtain ⟨p, vs, rfl, tp, pr⟩ := OA.tup_inv hv
        obtain ⟨x, y, rfl, hx, hy⟩ : ∃ x y, vs = [x, y] ∧ rOb K M H x a ∧ rOb K M H y b := by
          cases pr with
          | cons r t =>
            cases t with
            | cons r2 t2 => cases t2; exact ⟨_, _, rfl, r, r2⟩
        rw [isFr_two] at q
        walk_at "my_go"
        refine s_gtup tp.sq rfl ?_
        walk_at "my_go"
        cases ha : a.isInt with
        | false =>
          rw [ha] at q
          walk_at "my_go"
          exact q
        | true =>
          obtain ⟨n, rfl⟩ := isInt_inv ha
          cases hx
          rw [ha] at q
          walk_at "my_go"
          cases hb : b.isInt with
          | false =>
            rw [hb] at q
            walk_at "my_go"
            exact q
          | true =>
            obtain ⟨d, rfl⟩ := isInt_inv hb
            cases hy
            rw [hb] at q
            walk_at "my_go"
            walk_at "my_sp"
            · rename_i h1
              walk_at "my_go"
              rw [show decide (((Nat.gcd n.natAbs d.natAbs : Nat) : Int) = 1) = decide (Nat.gcd n.natAbs d.natAbs = 1) from decide_eq_decide.mpr (by omega)]
              simpa [h1] using q
            · rename_i h1
              simpa [h1] using q
end
abbrev s_is_knot : Stmt := topS 18
theorem sc_is_knot : FnScope ["value"] ["value"] (defScope s_is_knot) := ⟨rfl, rfl, rfl, by decide +kernel, rfl, by decide +kernel, by decide +kernel⟩
theorem st_is_knot {x0 : V} : L2.start ["value"] [x0] = [some x0] := rfl

def sp_isKnotO (K : Fg) : Sp := fun vs H Q _ => ∃ (M : Ms) (v : V) (o : Ob), vs = [v] ∧ rOb K M H v o ∧ Q (.bl o.isKn) H
theorem c_isKnotO {K : Fg} {M : Ms} {H : Hp} {Q : VK} {E : XK} {v : V} {o : Ob} (h : rOb K M H v o) (q : Q (.bl o.isKn) H) : sp_isKnotO K ([v] ++ []) H Q E := ⟨M, v, o, rfl, h, q⟩
local macro_rules | `(tactic| walk_at "my_call") => `(tactic| ((with_reducible apply c_isKnotO); (case h => walk_at "my_tr")))
theorem isKn_no {xs : List Ob} (h : xs.length ≠ 2) : (Ob.tup xs).isKn = false := by
  match xs with
  | [] => rfl
  | [_] => simp [Ob.isKn]
  | [_, _] => simp at h
  | _ :: _ :: _ :: _ => simp [Ob.isKn]
section
variable {P : Program} {w : World} {K : PySem.W.Frag} {mg : Str → Option Value} {base : Heap}
theorem ok_is_knot {f : Addr} {fd : FuncData} (F : Fun K "is_knot" "is_knot" s_is_knot f fd) (G_is_fraction : Cal P w K mg base CX0 2 "is_fraction" ["value"] [] (sp_isFrac K)) (z_isinstance : mg "isinstance" = none) (z_len : mg "len" = none) (z_tuple : mg "tuple" = none) : FnOk P w K mg base CX0 3 f fd ["value"] (sp_isKnotO K) := by
  refine F.ok (k := 2) sc_is_knot (fun vs H Q E h => ?_) (fun cdv A outer s H vs Q E hr h => ?_)
  · obtain ⟨M, v, o, rfl, hv, q⟩ := h; rfl
  · obtain ⟨M, v, o, rfl, hv, q⟩ := h
    refine ⟨_, (pss_cons (ps_if (PW.pt (pw_or (pt_not (pt_val (pe_callB (callIsiK K) (by rfl) z_isinstance (by decide +kernel) (pa_cons (pv 0) (pa_cons (pe_bltn (v := .ty "tuple") (by rfl) z_tuple (by decide +kernel) rfl) pa_nil))))) (pw_or1 (pt_cmpR (opNeK K hr.units) (pe_callB (callLenK K) (by rfl) z_len (by decide +kernel) (pa_cons (pv 0) pa_nil)) pe_int (nomark _))))) (pss_one (ps_ret pe_bl)) pss_nil)
      (pss_one (ps_ret (pe_and (pe_cal G_is_fraction (hr.mono (by decide)) (by rfl) pass0 (pa_cons (pe_ix (ixSeq K) (pv 0) pe_int (fun _ _ => rfl)) pa_nil)) (pe_one (pe_cal G_is_fraction (hr.mono (by decide)) (by rfl) pass0 (pa_cons (pe_ix (ixSeq K) (pv 0) pe_int (fun _ _ => rfl)) pa_nil))))))), ?_⟩
    rw [st_is_knot]
    try simp only [cxK, cxK2]

    walk_at "my_go"
    cases ht : o.isTup with
    | false =>
      walk_at "my_go"
      rw [show o.isKn = false by cases o <;> simp_all [Ob.isKn, Ob.isTup]] at q
      exact q
    | true =>
      obtain ⟨xs, rfl⟩ : ∃ xs, o = .tup xs := by cases o <;> simp_all [Ob.isTup]
      walk_at "my_go"
      walk_at "my_sp"
      · rename_i hl
        walk_at "my_go"
        rw [isKn_no (by omega)] at q
        exact q
      · rename_i hl
        obtain ⟨a, b, rfl⟩ : ∃ a b, xs = [a, b] := by
          match xs, hl with
          | [a, b], _ => exact ⟨a, b, rfl⟩
          | [], hl => simp at hl
          | [_], hl => simp at hl
          | _ :: _ :: _ :: _, hl => simp at hl; omega
        obtain ⟨p, vs, rfl, tp, pr⟩ := OA.tup_inv hv
        obtain ⟨x, y, rfl, hx, hy⟩ : ∃ x y, vs = [x, y] ∧ rOb K M H x a ∧ rOb K M H y b := by
          cases pr with
          | cons r t =>
            cases t with
            | cons r2 t2 => cases t2; exact ⟨_, _, rfl, r, r2⟩
        have q : Q (.bl (a.isFr && b.isFr)) H := q
        walk_at "my_go"
        cases ha : a.isFr with
        | false =>
          rw [ha] at q
          walk_at "my_go"
          exact q
        | true =>
          rw [ha] at q
          walk_at "my_go"
          exact q
end
abbrev s_order_of : Stmt := topS 16
theorem sc_order_of : FnScope ["a", "b", "left", "right"] ["a", "b"] (defScope s_order_of) := ⟨rfl, rfl, rfl, by decide +kernel, rfl, by decide +kernel, by decide +kernel⟩
theorem st_order_of {x0 x1 : V} : L2.start ["a", "b", "left", "right"] [x0, x1] = [some x0, some x1, none, none] := rfl

def ordQ (a b : Rat) : Int := if a < b then -1 else if b < a then 1 else 0
def sp_order (K : Fg) : Sp := fun vs H Q _ => ∃ (M : Ms) (x y : V) (a b : Rat) (j k : Nat), vs = [x, y] ∧ rFr K M H x a ∧ rFr K M H y b ∧ BQ j a ∧ BQ k b ∧ j + k < 999990 ∧ Q (.int (ordQ a b)) H
theorem c_order {K : Fg} {M : Ms} {H : Hp} {Q : VK} {E : XK} {x y : V} {a b : Rat} {j k : Nat} (ha : rFr K M H x a) (hb : rFr K M H y b) (ba : BQ j a) (bb : BQ k b) (hk : j + k < 999990) (h : Q (.int (ordQ a b)) H) :
    sp_order K ([x, y] ++ []) H Q E := ⟨M, x, y, a, b, j, k, rfl, ha, hb, ba, bb, hk, h⟩
local macro_rules | `(tactic| walk_at "my_call") => `(tactic| ((with_reducible apply c_order); (case ha => walk_at "my_tr"); (case hb => walk_at "my_tr"); (case ba => walk_at "my_bq"); (case bb => walk_at "my_bq"); (case hk => omega)))
section
variable {P : Program} {w : World} {K : PySem.W.Frag} {mg : Str → Option Value} {base : Heap}
theorem ok_order_of {f : Addr} {fd : FuncData} (F : Fun K "order_of" "order_of" s_order_of f fd)  : FnOk P w K mg base CX0 1 f fd ["a", "b"] (sp_order K) := by
  refine F.ok (k := 0) sc_order_of (fun vs H Q E h => ?_) (fun cdv A outer s H vs Q E hr h => ?_)
  · obtain ⟨M, x, y, a, b, j, k, rfl, ha, hb, ba, bb, hk, q⟩ := h; rfl
  · obtain ⟨M, x, y, a, b, j, k, rfl, ha, hb, ba, bb, hk, q⟩ := h
    refine ⟨_, (pss_cons (ps_set (i := 2) sc_order_of.nd rfl (by first | exact Or.inl rfl | exact Or.inr rfl) (pe_op opMul (pe_ix (ixSeq K) (pv 0) pe_int (fun _ _ => rfl)) (pe_ix (ixSeq K) (pv 1) pe_int (fun _ _ => rfl))))
      (pss_cons (ps_set (i := 3) sc_order_of.nd rfl (by first | exact Or.inl rfl | exact Or.inr rfl) (pe_op opMul (pe_ix (ixSeq K) (pv 1) pe_int (fun _ _ => rfl)) (pe_ix (ixSeq K) (pv 0) pe_int (fun _ _ => rfl))))
      (pss_cons (ps_if (pt_cmpR op_lt (pv 2) (pv 3) (nomark _)) (pss_one (ps_ret (pe_un un_neg pe_int))) pss_nil)
      (pss_one (ps_ret (pe_ifExp (pt_cmpR op_gt (pv 2) (pv 3) (nomark _)) pe_int pe_int)))))), ?_⟩
    rw [st_order_of]
    try simp only [cxK, cxK2]

    walk_at "my_go"
    walk_at "my_sp"
    · rename_i h
      walk_at "my_go"
      rw [ordQ, if_pos ((q_lt a b).mp h)] at q
      exact q
    · rename_i h
      rw [ordQ, if_neg (fun z => h ((q_lt a b).mpr z))] at q
      walk_at "my_go"
      walk_at "my_sp"
      · rename_i h2
        walk_at "my_go"
        rw [if_pos ((q_lt b a).mp h2)] at q
        exact q
      · rename_i h2
        walk_at "my_go"
        rw [if_neg (fun z => h2 ((q_lt b a).mpr z))] at q
        exact q
end
abbrev s_are_knots : Stmt := topS 19
theorem sc_are_knots : FnScope ["value", "knot", "k"] ["value"] (defScope s_are_knots) := ⟨rfl, rfl, rfl, by decide +kernel, rfl, by decide +kernel, by decide +kernel⟩
theorem st_are_knots {x0 : V} : L2.start ["value", "knot", "k"] [x0] = [some x0, none, none] := rfl

def sp_areKO (K : Fg) : Sp := fun vs H Q _ => ∃ (M : Ms) (v : V) (o : Ob) (j : Nat), vs = [v] ∧ rOb K M H v o ∧ OBd j o ∧ j < 400000 ∧ o.items.length < 90000 ∧ Own M H ∧ ∀ H', Same H H' → Q (.bl o.areK) H'
theorem c_areKO {K : Fg} {M : Ms} {H : Hp} {Q : VK} {E : XK} {v : V} {o : Ob} {j : Nat} (h : rOb K M H v o) (hb : OBd j o) (hj : j < 400000) (hn : o.items.length < 90000) (ow : Own M H) (q : ∀ H', Same H H' → Q (.bl o.areK) H') : sp_areKO K ([v] ++ []) H Q E := ⟨M, v, o, j, rfl, h, hb, hj, hn, ow, q⟩
local macro_rules | `(tactic| walk_at "my_call") => `(tactic| ((with_reducible apply c_areKO); (case h => walk_at "my_tr"); (case hb => assumption); (case hj => omega); (case hn => first | assumption | omega); (case ow => walk_at "my_tr"); intro _ _))
theorem ordQ_dec {a b : Rat} : decide (ordQ a b < 0) = decide (a < b) := by
  unfold ordQ
  by_cases h : a < b
  · rw [if_pos h, decide_eq_true h]; rfl
  · rw [if_neg h, decide_eq_false h]
    split <;> rfl
section
variable {P : Program} {w : World} {K : PySem.W.Frag} {mg : Str → Option Value} {base : Heap}
theorem ok_are_knots {f : Addr} {fd : FuncData} (F : Fun K "are_knots" "are_knots" s_are_knots f fd) (G_is_knot : Cal P w K mg base CX0 3 "is_knot" ["value"] [] (sp_isKnotO K)) (G_order_of : Cal P w K mg base CX0 1 "order_of" ["a", "b"] [] (sp_order K)) (z_all : mg "all" = none) (z_isinstance : mg "isinstance" = none) (z_len : mg "len" = none) (z_list : mg "list" = none) (z_range : mg "range" = none) (z_tuple : mg "tuple" = none) : FnOk P w K mg base CX0 4 f fd ["value"] (sp_areKO K) := by
  refine F.ok (k := 3) sc_are_knots (fun vs H Q E h => ?_) (fun cdv A outer s H vs Q E hr h => ?_)
  · obtain ⟨M, v, o, j, rfl, hv, hb, hj, hn, ow, q⟩ := h; rfl
  · obtain ⟨M, v, o, j, rfl, hv, hb, hj, hn, ow, q⟩ := h
    refine ⟨_, (pss_cons (ps_if (PW.pt (pw_or (pt_not (pt_val (pe_callB (callIsiTK K) (by rfl) z_isinstance (by decide +kernel) (pa_cons (pv 0) (pa_cons (pe_tup (pa_cons (pe_bltn (v := .ty "list") (by rfl) z_list (by decide +kernel) rfl) (pa_cons (pe_bltn (v := .ty "tuple") (by rfl) z_tuple (by decide +kernel) rfl) pa_nil))) pa_nil))))) (pw_or1 (pt_cmpR (opEqK K hr.units) (pe_callB (callLenK K) (by rfl) z_len (by decide +kernel) (pa_cons (pv 0) pa_nil)) pe_int (nomark _))))) (pss_one (ps_ret pe_bl)) pss_nil)
      (pss_cons (ps_if (pt_not (pt_val (pe_callB (callAllK K rfl) (by rfl) z_all (by decide +kernel) (pa_cons (pe_lc (own := [("knot", 1)]) rfl sc_are_knots.nd (piQK K (pv 0)) (blkOk_by (own := [("knot", 1)]) (N := ["value", "knot", "k"]) (sc := defScope s_are_knots) (by decide +kernel)) (fun _ _ _ _ _ => (pg_name (i := 1) sc_are_knots.nd rfl (by first | exact Or.inl rfl | exact Or.inr rfl))) (fun _ _ _ _ _ => pts_nil) (fun _ _ _ _ _ => (pe_cal G_is_knot (hr.mono (by decide)) (by rfl) pass0 (pa_cons (pv 1) pa_nil)))) pa_nil)))) (pss_one (ps_ret pe_bl)) pss_nil)
      (pss_one (ps_ret (pe_callB (callAllK K rfl) (by rfl) z_all (by decide +kernel) (pa_cons (pe_lc (own := [("k", 2)]) rfl sc_are_knots.nd (pi_range2 (by rfl) z_range (pa_cons pe_int (pa_cons (pe_callB (callLenK K) (by rfl) z_len (by decide +kernel) (pa_cons (pv 0) pa_nil)) pa_nil))) (blkOk_by (own := [("k", 2)]) (N := ["value", "knot", "k"]) (sc := defScope s_are_knots) (by decide +kernel)) (fun _ _ _ _ _ => (pg_name (i := 2) sc_are_knots.nd rfl (by first | exact Or.inl rfl | exact Or.inr rfl))) (fun _ _ _ _ _ => pts_nil) (fun _ _ _ _ _ => (pe_cmpR op_lt (pe_cal G_order_of (hr.mono (by decide)) (by rfl) pass0 (pa_cons (pe_ix (ixSeq K) (pe_ix (ixSeq K) (pv 0) (pe_op op_sub (pv 2) pe_int) (fun _ _ => rfl)) pe_int (fun _ _ => rfl)) (pa_cons (pe_ix (ixSeq K) (pe_ix (ixSeq K) (pv 0) (pv 2) (fun _ _ => rfl)) pe_int (fun _ _ => rfl)) pa_nil))) pe_int (nomark _)))) pa_nil)))))), ?_⟩
    rw [st_are_knots]
    try simp only [cxK, cxK2]

    walk_at "my_go"
    refine s_newTy ?_
    intro p1 H1 s1 e1
    walk_at "my_go"
    refine s_isiQ (Rp.same s1 hv) e1 ?_
    walk_at "my_go"
    cases hs : o.isSq with
    | false =>
      walk_at "my_go"
      have q := q _ s1
      unfold Ob.areK at q
      rw [hs] at q
      exact q
    | true =>
      have hq0 : rQ rOb K M H v o.items := ob_seq hv hs
      have hq1 : rQ rOb K M H1 v o.items := Rp.same s1 hq0
      walk_at "my_go"
      refine s_lenQ hq1 ?_
      walk_at "my_go"
      by_cases h0 : o.items.length = 0
      · rw [decide_eq_true (by omega)]
        walk_at "my_go"
        have q := q _ s1
        unfold Ob.areK at q
        rw [hs, decide_eq_true h0] at q
        exact q
      · rw [decide_eq_false (by omega)]
        walk_at "my_go"
        refine lc_mapQ (A := rOb) (B := rBl) (M := M) rfl o.items (fun _ => true) (fun x => x.isKn) hq1 (by walk_at "my_tr") (by omega) ?_ ?_
        · intro i a v' M' H2 Z N hi ht hw hr' hZ hN
          walk_at "my_go"
          exact hZ rfl _ _ (Same.refl _) rfl
        intro v2 H2 s2 r2
        walk_at "my_go"
        refine s_all r2.l ?_
        have ea : (((o.items.filter fun _ => true).map fun x => x.isKn).all id) = o.items.all Ob.isKn := by
          rw [List.filter_eq_self.mpr (by simp), List.all_map]
          rfl
        rw [ea]
        cases hk : o.items.all Ob.isKn with
        | false =>
          walk_at "my_go"
          have q := q _ (s1.trans s2)
          unfold Ob.areK at q
          rw [hs, decide_eq_false h0, hk] at q
          exact q
        | true =>
          walk_at "my_go"
          have hq2 : rQ rKn K M H2 v (o.items.map Ob.kn) := Rp.same s2 (rQ_kn hq1 hk)
          have kb := OBd.kb hb.items hk
          have q : ∀ H', Same H H' → Q (.bl (ascL (o.items.map Ob.kn))) H' := by
            intro H' s
            have q := q H' s
            unfold Ob.areK at q
            rw [hs, decide_eq_false h0, hk] at q
            exact q
          have el : o.items.length = (o.items.map Ob.kn).length := by rw [List.length_map]
          refine s_lenQ (Rp.same s2 hq1) ?_
          generalize o.items.map Ob.kn = ks at *
          rw [el]
          have hn : ks.length < 90000 := by omega
          walk_at "my_go"
          refine s_rng2 (by omega) ?_
          refine lc_mapR (B := rBl) (M := M) (K := K) (fun _ => true) (fun i => decide ((ks.getD i (0, 0)).1 < (ks.getD (i + 1) (0, 0)).1)) (by walk_at "my_tr") (by omega) ?_ ?_
          · intro i M' H3 Z N hi ht hw hZ hN
            have hv3 : rQ rKn K M' H3 v ks := Mono.mono ht hq2
            have l1 : i + 1 < ks.length := by omega
            have ea := List.getElem?_eq_getElem (show i < ks.length by omega)
            have eb := List.getElem?_eq_getElem l1
            have hZ' : ∀ y H4, Same H3 H4 → rBl K M' H4 y (decide ((ks[i]'(by omega)).1 < (ks[i + 1]'l1).1)) → Z y H4 := by
              intro y H4 s4 hy
              refine hZ rfl y H4 s4 ?_
              simp only [List.getD_eq_getElem?_getD, ea, eb, Option.getD_some]
              exact hy
            generalize ks[i]'(by omega) = ka at *
            generalize ks[i + 1]'l1 = kb' at *
            have b1 := (kb.get ea).1
            have b2 := (kb.get eb).1
            walk_at "my_go"
            refine s_ixQ hv3 ea (by omega) ?_
            intro y1 r1
            walk_at "my_go"
            refine s_ixQ hv3 eb (by omega) ?_
            intro y2 r2'
            walk_at "my_go"
            rw [ordQ_dec]
            exact hZ' _ _ (Same.refl _) rfl
          intro D2 vs2 H3 fD2 s3 _ _ r3
          walk_at "my_go"
          refine s_all r3 ?_
          have e3 : ((((List.range (((ks.length : Nat) : Int) - 1).toNat).filter fun _ => true).map fun i => decide ((ks.getD i (0, 0)).1 < (ks.getD (i + 1) (0, 0)).1)).all id) = ascL ks := by
            unfold ascL
            rw [List.filter_eq_self.mpr (by simp), List.all_map, show (((ks.length : Nat) : Int) - 1).toNat = ks.length - 1 by omega]
            rfl
          rw [e3]
          exact q _ ((s1.trans s2).trans s3)
end
abbrev s_new_fraction : Stmt := topS 11
theorem sc_new_fraction : FnScope ["n", "d", "common"] ["n", "d"] (defScope s_new_fraction) := ⟨rfl, rfl, rfl, by decide +kernel, rfl, by decide +kernel, by decide +kernel⟩
theorem st_new_fraction {x0 x1 : V} : L2.start ["n", "d", "common"] [x0, x1] = [some x0, some x1, none] := rfl

section
variable {P : Program} {w : World} {K : PySem.W.Frag} {mg : Str → Option Value} {base : Heap}
theorem ok_new_fraction {f : Addr} {fd : FuncData} (F : FunD K "new_fraction" "new_fraction" (defArgs s_new_fraction) (defBody s_new_fraction) (defScope s_new_fraction) [.int 1] [] f fd) (m_gcd : mg "gcd" = some (.builtin "math.gcd")) : FnOk P w K mg base CX0 1 f fd ["n", "d"] (sp_div K) := by
  refine F.ok (k := 0) sc_new_fraction (fun vs H Q E h => ?_) (fun cdv A outer s H vs Q E hr h => ?_)
  · obtain ⟨M, n, d, k, rfl, hd, hb, hk, ow, q⟩ := h; rfl
  · obtain ⟨M, n, d, k, rfl, hd, hb, hk, ow, q⟩ := h
    refine ⟨_, (pss_cons (ps_set (i := 2) sc_new_fraction.nd rfl (by first | exact Or.inl rfl | exact Or.inr rfl) (pe_callBfun cr_gcd (by rfl) m_gcd (pa_cons (pv 0) (pa_cons (pv 1) pa_nil))))
      (pss_cons (ps_if (pt_cmpR op_lt (pv 1) pe_int (nomark _)) (pss_one (ps_set (i := 2) sc_new_fraction.nd rfl (by first | exact Or.inl rfl | exact Or.inr rfl) (pe_un un_neg (pv 2)))) pss_nil)
      (pss_one (ps_ret (pe_tup (pa_cons (pe_op opDiv (pv 0) (pv 2)) (pa_cons (pe_op opDiv (pv 1) (pv 2)) pa_nil))))))), ?_⟩
    rw [st_new_fraction]
    try simp only [cxK, cxK2]

    have gp := gcd_pos_of (n := n) hd
    have g0 : ((Nat.gcd n.natAbs d.natAbs : Nat) : Int) ≠ 0 := by omega
    have gb : Bd k ((Nat.gcd n.natAbs d.natAbs : Nat) : Int) := hb.of_le (by
      have := Nat.le_of_dvd (by omega) (Nat.gcd_dvd_right n.natAbs d.natAbs)
      omega)
    have L := low_terms (n := n) hd rfl
    walk_at "my_go"
    walk_at "my_sp"
    · walk_at "my_go"
      refine s_newFr ow ?_ ?_ q
      · rw [fdiv_neg_dvd (gcd_dvd_l n d)]; exact (L.2 (by assumption)).1
      · rw [fdiv_neg_dvd (gcd_dvd_r n d)]; exact (L.2 (by assumption)).2
    · walk_at "my_go"
      refine s_newFr ow ?_ ?_ q
      · rw [fdiv_dvd (gcd_dvd_l n d)]; exact (L.1 (by omega)).1
      · rw [fdiv_dvd (gcd_dvd_r n d)]; exact (L.1 (by omega)).2
end
abbrev s_rest_of : Stmt := topS 13
theorem sc_rest_of : FnScope ["a", "b"] ["a", "b"] (defScope s_rest_of) := ⟨rfl, rfl, rfl, by decide +kernel, rfl, by decide +kernel, by decide +kernel⟩
theorem st_rest_of {x0 x1 : V} : L2.start ["a", "b"] [x0, x1] = [some x0, some x1] := rfl

def sp_rest (K : Fg) : Sp := fun vs H Q _ => ∃ (M : Ms) (x y : V) (a b : Rat) (j k : Nat), vs = [x, y] ∧ rFr K M H x a ∧ rFr K M H y b ∧ BQ j a ∧ BQ k b ∧ j + k < 8990 ∧ True ∧ Own M H ∧ ∀ v H', Same H H' → rFr K M H' v (a - b) → Q v H'
theorem c_rest {K : Fg} {M : Ms} {H : Hp} {Q : VK} {E : XK} {x y : V} {a b : Rat} {j k : Nat} (ha : rFr K M H x a) (hb : rFr K M H y b) (ba : BQ j a) (bb : BQ k b) (hk : j + k < 8990) (hp : True) (ow : Own M H) (h : ∀ v H', Same H H' → rFr K M H' v (a - b) → Q v H') :
    sp_rest K ([x, y] ++ []) H Q E := ⟨M, x, y, a, b, j, k, rfl, ha, hb, ba, bb, hk, hp, ow, h⟩
local macro_rules | `(tactic| walk_at "my_call") => `(tactic| ((with_reducible apply c_rest); (case ha => walk_at "my_tr"); (case hb => walk_at "my_tr"); (case ba => walk_at "my_bq"); (case bb => walk_at "my_bq"); (case hk => omega); (case hp => walk_at "my_side"); (case ow => walk_at "my_tr"); intro _ _ _ _))
section
variable {P : Program} {w : World} {K : PySem.W.Frag} {mg : Str → Option Value} {base : Heap}
theorem ok_rest_of {f : Addr} {fd : FuncData} (F : Fun K "rest_of" "rest_of" s_rest_of f fd) (G_new_fraction : Cal P w K mg base CX0 1 "new_fraction" ["n", "d"] [] (sp_div K)) : FnOk P w K mg base CX0 2 f fd ["a", "b"] (sp_rest K) := by
  refine F.ok (k := 1) sc_rest_of (fun vs H Q E h => ?_) (fun cdv A outer s H vs Q E hr h => ?_)
  · obtain ⟨M, x, y, a, b, j, k, rfl, ha, hb, ba, bb, hk, hp, ow, q⟩ := h; rfl
  · obtain ⟨M, x, y, a, b, j, k, rfl, ha, hb, ba, bb, hk, hp, ow, q⟩ := h
    refine ⟨_, (pss_one (ps_ret (pe_cal G_new_fraction (hr.mono (by decide)) (by rfl) pass0 (pa_cons (pe_op op_sub (pe_op opMul (pe_ix (ixSeq K) (pv 0) pe_int (fun _ _ => rfl)) (pe_ix (ixSeq K) (pv 1) pe_int (fun _ _ => rfl))) (pe_op opMul (pe_ix (ixSeq K) (pv 1) pe_int (fun _ _ => rfl)) (pe_ix (ixSeq K) (pv 0) pe_int (fun _ _ => rfl)))) (pa_cons (pe_op opMul (pe_ix (ixSeq K) (pv 0) pe_int (fun _ _ => rfl)) (pe_ix (ixSeq K) (pv 1) pe_int (fun _ _ => rfl))) pa_nil))))), ?_⟩
    rw [st_rest_of]
    try simp only [cxK, cxK2]

    have pa := q_den_pos a
    have pb := q_den_pos b
    have pm : (a.den : Int) * (b.den : Int) ≠ 0 := by have := Int.mul_pos pa pb; omega
    walk_at "my_go"
    rw [q_sub] at *
    exact q _ _ (by assumption) (by assumption)
end
abbrev s_share_of : Stmt := topS 15
theorem sc_share_of : FnScope ["a", "b"] ["a", "b"] (defScope s_share_of) := ⟨rfl, rfl, rfl, by decide +kernel, rfl, by decide +kernel, by decide +kernel⟩
theorem st_share_of {x0 x1 : V} : L2.start ["a", "b"] [x0, x1] = [some x0, some x1] := rfl

def sp_share (K : Fg) : Sp := fun vs H Q _ => ∃ (M : Ms) (x y : V) (a b : Rat) (j k : Nat), vs = [x, y] ∧ rFr K M H x a ∧ rFr K M H y b ∧ BQ j a ∧ BQ k b ∧ j + k < 8990 ∧ b ≠ 0 ∧ Own M H ∧ ∀ v H', Same H H' → rFr K M H' v (a / b) → Q v H'
theorem c_share {K : Fg} {M : Ms} {H : Hp} {Q : VK} {E : XK} {x y : V} {a b : Rat} {j k : Nat} (ha : rFr K M H x a) (hb : rFr K M H y b) (ba : BQ j a) (bb : BQ k b) (hk : j + k < 8990) (hp : b ≠ 0) (ow : Own M H) (h : ∀ v H', Same H H' → rFr K M H' v (a / b) → Q v H') :
    sp_share K ([x, y] ++ []) H Q E := ⟨M, x, y, a, b, j, k, rfl, ha, hb, ba, bb, hk, hp, ow, h⟩
local macro_rules | `(tactic| walk_at "my_call") => `(tactic| ((with_reducible apply c_share); (case ha => walk_at "my_tr"); (case hb => walk_at "my_tr"); (case ba => walk_at "my_bq"); (case bb => walk_at "my_bq"); (case hk => omega); (case hp => walk_at "my_side"); (case ow => walk_at "my_tr"); intro _ _ _ _))
section
variable {P : Program} {w : World} {K : PySem.W.Frag} {mg : Str → Option Value} {base : Heap}
theorem ok_share_of {f : Addr} {fd : FuncData} (F : Fun K "share_of" "share_of" s_share_of f fd) (G_new_fraction : Cal P w K mg base CX0 1 "new_fraction" ["n", "d"] [] (sp_div K)) : FnOk P w K mg base CX0 2 f fd ["a", "b"] (sp_share K) := by
  refine F.ok (k := 1) sc_share_of (fun vs H Q E h => ?_) (fun cdv A outer s H vs Q E hr h => ?_)
  · obtain ⟨M, x, y, a, b, j, k, rfl, ha, hb, ba, bb, hk, hp, ow, q⟩ := h; rfl
  · obtain ⟨M, x, y, a, b, j, k, rfl, ha, hb, ba, bb, hk, hp, ow, q⟩ := h
    refine ⟨_, (pss_one (ps_ret (pe_cal G_new_fraction (hr.mono (by decide)) (by rfl) pass0 (pa_cons (pe_op opMul (pe_ix (ixSeq K) (pv 0) pe_int (fun _ _ => rfl)) (pe_ix (ixSeq K) (pv 1) pe_int (fun _ _ => rfl))) (pa_cons (pe_op opMul (pe_ix (ixSeq K) (pv 0) pe_int (fun _ _ => rfl)) (pe_ix (ixSeq K) (pv 1) pe_int (fun _ _ => rfl))) pa_nil))))), ?_⟩
    rw [st_share_of]
    try simp only [cxK, cxK2]

    have pa := q_den_pos a
    have pb := q_den_pos b
    have pm : (a.den : Int) * b.num ≠ 0 := by
      intro z
      rcases Int.mul_eq_zero.mp z with z | z
      · omega
      · exact q_num_ne.mpr hp z
    walk_at "my_go"
    rw [q_div _ _ hp] at *
    exact q _ _ (by assumption) (by assumption)
end
abbrev s_pace_behind : Stmt := topS 21
theorem sc_pace_behind : FnScope ["knots", "k", "start", "here", "end", "there"] ["knots", "k"] (defScope s_pace_behind) := ⟨rfl, rfl, rfl, by decide +kernel, rfl, by decide +kernel, by decide +kernel⟩
theorem st_pace_behind {x0 x1 : V} : L2.start ["knots", "k", "start", "here", "end", "there"] [x0, x1] = [some x0, some x1, none, none, none, none] := rfl

def sp_paceB (K : Fg) : Sp := fun vs H Q _ => ∃ (M : Ms) (x : V) (ks : List Kn) (i j : Nat), vs = [x, .int (i : Nat)] ∧ rKs K M H x ks ∧ i < ks.length ∧ Asc ks ∧ KB j ks ∧ j < 2000 ∧ Own M H ∧ ∀ v H', Same H H' → rFr K M H' v (paceB ks i) → Q v H'
theorem c_paceB {K : Fg} {M : Ms} {H : Hp} {Q : VK} {E : XK} {x : V} {ks : List Kn} {n : Int} (i : Nat) {j : Nat} (hx : rKs K M H x ks) (hi : n = (i : Nat)) (hn : i < ks.length) (ha : Asc ks) (hb : KB j ks) (hj : j < 2000) (ow : Own M H) (q : ∀ v H', Same H H' → rFr K M H' v (paceB ks i) → Q v H') : sp_paceB K ([x, .int n] ++ []) H Q E := ⟨M, x, ks, i, j, by rw [hi]; rfl, hx, hn, ha, hb, hj, ow, q⟩
theorem paceB_last {ks : List Kn} {i : Nat} (h : i + 1 = ks.length) : paceB ks i = 0 := by
  unfold paceB
  rw [List.getElem?_eq_none (by omega : ks.length ≤ i + 1)]
  split
  · rename_i h; cases h
  · rfl
theorem paceB_mid {ks : List Kn} {i : Nat} {a b : Kn} (ha : ks[i]? = some a) (hb : ks[i + 1]? = some b) : paceB ks i = (b.2 - a.2) / (b.1 - a.1) := by
  unfold paceB
  rw [ha, hb]
section
variable {P : Program} {w : World} {K : PySem.W.Frag} {mg : Str → Option Value} {base : Heap}
theorem ok_pace_behind {f : Addr} {fd : FuncData} (F : Fun K "pace_behind" "pace_behind" s_pace_behind f fd) (G_rest_of : Cal P w K mg base CX0 2 "rest_of" ["a", "b"] [] (sp_rest K)) (G_share_of : Cal P w K mg base CX0 2 "share_of" ["a", "b"] [] (sp_share K)) (z_len : mg "len" = none) (u_ZERO : CstFr K mg "ZERO" 0) : FnOk P w K mg base CX0 3 f fd ["knots", "k"] (sp_paceB K) := by
  refine F.ok (k := 2) sc_pace_behind (fun vs H Q E h => ?_) (fun cdv A outer s H vs Q E hr h => ?_)
  · obtain ⟨M, x, ks, i, j, rfl, hx, hn, ha, hb, hj, ow, q⟩ := h; rfl
  · obtain ⟨M, x, ks, i, j, rfl, hx, hn, ha, hb, hj, ow, q⟩ := h
    obtain ⟨z_ZERO, mz_ZERO, rz_ZERO⟩ := u_ZERO
    refine ⟨_, (pss_cons (ps_if (pt_cmpR (opEqK K hr.units) (pv 1) (pe_op op_sub (pe_callB (callLenK K) (by rfl) z_len (by decide +kernel) (pa_cons (pv 0) pa_nil)) pe_int) (nomark _)) (pss_one (ps_ret (pe_glob (v := .ref z_ZERO) (by rfl) mz_ZERO rfl))) pss_nil)
      (pss_cons (ps_asg (pe_tup (pa_cons (pe_ix (ixSeq K) (pv 0) (pv 1) (fun _ _ => rfl)) (pa_cons (pe_ix (ixSeq K) (pv 0) (pe_op (opAddK K) (pv 1) pe_int) (fun _ _ => rfl)) pa_nil))) (pgTupK (n := 2) K rfl (pgs_cons (pgTupK (n := 2) K rfl (pgs_cons (pg_name (i := 2) sc_pace_behind.nd rfl (by first | exact Or.inl rfl | exact Or.inr rfl)) (pgs_cons (pg_name (i := 3) sc_pace_behind.nd rfl (by first | exact Or.inl rfl | exact Or.inr rfl)) pgs_nil))) (pgs_cons (pgTupK (n := 2) K rfl (pgs_cons (pg_name (i := 4) sc_pace_behind.nd rfl (by first | exact Or.inl rfl | exact Or.inr rfl)) (pgs_cons (pg_name (i := 5) sc_pace_behind.nd rfl (by first | exact Or.inl rfl | exact Or.inr rfl)) pgs_nil))) pgs_nil))))
      (pss_one (ps_ret (pe_cal G_share_of (hr.mono (by decide)) (by rfl) pass0 (pa_cons (pe_cal G_rest_of (hr.mono (by decide)) (by rfl) pass0 (pa_cons (pv 5) (pa_cons (pv 3) pa_nil))) (pa_cons (pe_cal G_rest_of (hr.mono (by decide)) (by rfl) pass0 (pa_cons (pv 4) (pa_cons (pv 2) pa_nil))) pa_nil))))))), ?_⟩
    rw [st_pace_behind]
    try simp only [cxK, cxK2]

    walk_at "my_go"
    walk_at "my_sp"
    · rename_i h
      walk_at "my_go"
      refine q _ _ (Same.refl _) ?_
      rw [paceB_last (by omega)]
      exact rz_ZERO _ _
    · rename_i h
      have l1 : i + 1 < ks.length := by omega
      have ea := List.getElem?_eq_getElem hn
      have eb := List.getElem?_eq_getElem l1
      generalize ks[i]'hn = a at ea
      generalize ks[i + 1]'l1 = b at eb
      have lt := ha.get ea eb (Nat.lt_succ_self i)
      have ba := hb.get ea
      have bb := hb.get eb
      have ba1 := ba.1
      have ba2 := ba.2
      have bb1 := bb.1
      have bb2 := bb.2
      have ne : b.1 - a.1 ≠ 0 := by
        intro z
        have h2 : 0 < b.1 - a.1 := (Rat.lt_iff_sub_pos ..).mp lt
        rw [z] at h2
        exact absurd h2 (by decide)
      walk_at "my_go"
      refine s_ixK hx ea rfl ?_
      intro y1 r1
      walk_at "my_go"
      refine s_ixK hx eb (by omega) ?_
      intro y2 r2
      walk_at "my_go"
      refine s_newU len2 ?_
      intro p1 H1 s1 e1
      refine s_gtup (SqT.of e1) rfl ?_
      walk_at "my_go"
      rename_i w1 H2 s2 t2 w2 H3 s3 t3 w3 H4 s4 t4
      rw [← paceB_mid ea eb] at t4
      exact q _ _ (by walk_at "my_same") t4
end
abbrev s_plain_knots : Stmt := topS 23
theorem sc_plain_knots : FnScope ["knots", "paces", "turns", "k"] ["knots"] (defScope s_plain_knots) := ⟨rfl, rfl, rfl, by decide +kernel, rfl, by decide +kernel, by decide +kernel⟩
theorem st_plain_knots {x0 : V} : L2.start ["knots", "paces", "turns", "k"] [x0] = [some x0, none, none, none] := rfl

def sp_plainK (K : Fg) : Sp := fun vs H Q _ => ∃ (M : Ms) (x : V) (ks : List Kn) (j : Nat), vs = [x] ∧ rKs K M H x ks ∧ 0 < ks.length ∧ ks.length ≤ 40 ∧ Asc ks ∧ KB j ks ∧ j < 2000 ∧ Own M H ∧ ∀ v H', Same H H' → rKs K M H' v (plainK ks) → Q v H'
theorem c_plainK {K : Fg} {M : Ms} {H : Hp} {Q : VK} {E : XK} {x : V} {ks : List Kn} {j : Nat} (hx : rKs K M H x ks) (h0 : 0 < ks.length) (hn : ks.length ≤ 40) (ha : Asc ks) (hb : KB j ks) (hj : j < 2000) (ow : Own M H) (q : ∀ v H', Same H H' → rKs K M H' v (plainK ks) → Q v H') : sp_plainK K ([x] ++ []) H Q E := ⟨M, x, ks, j, rfl, hx, h0, hn, ha, hb, hj, ow, q⟩
local macro_rules | `(tactic| walk_at "my_call") => `(tactic| ((with_reducible apply c_plainK); (case hx => walk_at "my_tr"); (case h0 => assumption); (case hn => assumption); (case ha => assumption); (case hb => assumption); (case hj => omega); (case ow => walk_at "my_tr"); intro _ _ _ _))
section
variable {P : Program} {w : World} {K : PySem.W.Frag} {mg : Str → Option Value} {base : Heap}
theorem ok_plain_knots {f : Addr} {fd : FuncData} (F : Fun K "plain_knots" "plain_knots" s_plain_knots f fd) (G_pace_behind : Cal P w K mg base CX0 3 "pace_behind" ["knots", "k"] [] (sp_paceB K)) (z_len : mg "len" = none) (z_range : mg "range" = none) : FnOk P w K mg base CX0 4 f fd ["knots"] (sp_plainK K) := by
  refine F.ok (k := 3) sc_plain_knots (fun vs H Q E h => ?_) (fun cdv A outer s H vs Q E hr h => ?_)
  · obtain ⟨M, x, ks, j, rfl, hx, h0, hn, ha, hb, hj, ow, q⟩ := h; rfl
  · obtain ⟨M, x, ks, j, rfl, hx, h0, hn, ha, hb, hj, ow, q⟩ := h
    refine ⟨_, (pss_cons (ps_set (i := 1) sc_plain_knots.nd rfl (by first | exact Or.inl rfl | exact Or.inr rfl) (pe_lc (own := [("k", 3)]) rfl sc_plain_knots.nd (pi_range1 (by rfl) z_range (pa_cons (pe_callB (callLenK K) (by rfl) z_len (by decide +kernel) (pa_cons (pv 0) pa_nil)) pa_nil)) (blkOk_by (own := [("k", 3)]) (N := ["knots", "paces", "turns", "k"]) (sc := defScope s_plain_knots) (by decide +kernel)) (fun _ _ _ _ _ => (pg_name (i := 3) sc_plain_knots.nd rfl (by first | exact Or.inl rfl | exact Or.inr rfl))) (fun _ _ _ _ _ => pts_nil) (fun _ _ _ _ _ => (pe_cal G_pace_behind (hr.mono (by decide)) (by rfl) pass0 (pa_cons (pv 0) (pa_cons (pv 3) pa_nil))))))
      (pss_cons (ps_setLc (i := 2) (own := [("k", 3)]) rfl sc_plain_knots.nd rfl rfl (sw_true rfl rfl rfl (by decide +kernel)) (pi_range2 (by rfl) z_range (pa_cons pe_int (pa_cons (pe_callB (callLenK K) (by rfl) z_len (by decide +kernel) (pa_cons (pv 0) pa_nil)) pa_nil))) (blkOk_by (own := [("k", 3)]) (N := ["knots", "paces", "turns", "k"]) (sc := defScope s_plain_knots) (by decide +kernel)) (fun _ _ _ _ _ => (pg_name (i := 3) sc_plain_knots.nd rfl (by first | exact Or.inl rfl | exact Or.inr rfl))) (fun _ _ _ _ _ => (pts_one (pt_cmpR (opNeK K hr.units) (pe_ix (ixSeq K) (pv 1) (pe_op op_sub (pv 3) pe_int) (fun _ _ => rfl)) (pe_ix (ixSeq K) (pv 1) (pv 3) (fun _ _ => rfl)) (nomark _)))) (fun _ _ _ _ _ => (pe_ix (ixSeq K) (pv 0) (pv 3) (fun _ _ => rfl))))
      (pss_one (ps_ret (pe_lst (pa_cons (pe_ix (ixSeq K) (pv 0) pe_int (fun _ _ => rfl)) (paStarK K (pv 2) pa_nil))))))), ?_⟩
    rw [st_plain_knots]
    try simp only [cxK, cxK2]

    walk_at "my_go"
    refine s_rng (by omega) ?_
    refine lc_mapR (B := rFr) (M := M) (K := K) (fun _ => true) (fun i => paceB ks i) ow (by omega) ?_ ?_
    · intro i M' H2 Z N hi ht hw hZ hN
      have hx2 : rKs K M' H2 x ks := Mono.mono ht hx
      walk_at "my_go"
      refine c_paceB i hx2 (by omega) (by omega) ha hb (by omega) hw ?_
      intro v3 H3 s3 r3
      exact hZ rfl _ _ s3 r3
    intro D vs' H2 fD s2 _ _ r2
    rw [List.filter_eq_self.mpr (fun _ _ => rfl)] at r2
    walk_at "my_go"
    refine s_rng2 (by omega) ?_
    refine lc_mapR (B := rKn) (M := M) (K := K) (fun i => !decide (paceB ks i = paceB ks (i + 1))) (fun i => ks.getD (i + 1) (0, 0)) (by walk_at "my_tr") (by omega) ?_ ?_
    · intro i M' H3 Z N hi ht hw hZ hN
      have hx3 : rKs K M' H3 x ks := Mono.mono ht (Rp.same s2 hx)
      have r3 := Mono.mono ht r2
      have l1 : i + 1 < ks.length := by omega
      walk_at "my_go"
      refine s_ixL r3 (j := i) (a := paceB ks i) (by rw [List.getElem?_map, List.getElem?_range (by omega)]; rfl) (by rw [show (1 : Int) + (i : Nat) - 1 = ((i : Nat) : Int) by omega]; exact ixN_nat (by simp; omega)) ?_
      intro y1 h1
      walk_at "my_go"
      refine s_ixL r3 (j := i + 1) (a := paceB ks (i + 1)) (by rw [List.getElem?_map, List.getElem?_range (by omega)]; rfl) (by rw [show (1 : Int) + (i : Nat) = ((i + 1 : Nat) : Int) by omega]; exact ixN_nat (by simp; omega)) ?_
      intro y2 h2
      walk_at "my_go"
      cases hd : decide (paceB ks i = paceB ks (i + 1)) with
      | true =>
        walk_at "my_go"
        exact hN (by rw [hd]; rfl) _ (Same.refl _)
      | false =>
        walk_at "my_go"
        refine s_ixK hx3 (List.getElem?_eq_getElem l1) (by omega) ?_
        intro y3 h3
        refine hZ (by rw [hd]; rfl) _ _ (Same.refl _) ?_
        rw [List.getD_eq_getElem?_getD, List.getElem?_eq_getElem l1]
        exact h3
    intro D2 vs2 H3 fD2 s3 e3 p3 r3
    have l0 : 0 < ks.length := h0
    walk_at "my_go"
    refine s_ixK (Rp.same s3 (Rp.same s2 hx)) (List.getElem?_eq_getElem l0) rfl ?_
    intro y4 h4
    walk_at "my_go"
    refine ⟨D2, vs2, rfl, .inr (SqL.of e3), ?_⟩
    walk_at "my_go"
    have lp := Prd.len p3
    rw [List.append_nil]
    refine s_newL (A := rKn) (K := K) (M := M) (as := plainK ks) (by walk_at "my_tr") (len_ok ?_) ?_ ?_
    · have h1 := List.length_filter_le (fun i => !decide (paceB ks i = paceB ks (i + 1))) (List.range ((ks.length : Int) - 1).toNat)
      rw [List.length_map] at lp
      rw [List.length_range] at h1
      show vs2.length + 1 < 100000
      omega
    · unfold plainK
      have e1 : ks.take 1 = [ks[0]'l0] := by
        cases ks with
        | nil => simp at l0
        | cons a r => rfl
      rw [e1, show ks.length - 1 = ((ks.length : Int) - 1).toNat by omega]
      exact .cons h4 p3
    intro v5 H5 s5 r5
    exact q _ _ (by walk_at "my_same") r5
end
abbrev s_Timetable___init__ : Stmt := inClass (topS 24) 1
theorem sc_Timetable___init__ : FnScope ["self", "knots"] ["self", "knots"] (defScope s_Timetable___init__) := ⟨rfl, rfl, rfl, by decide +kernel, rfl, by decide +kernel, by decide +kernel⟩
theorem st_Timetable___init__ {x0 x1 : V} : L2.start ["self", "knots"] [x0, x1] = [some x0, some x1] := rfl

def Ob.fits (o : Ob) : Bool := o.areK && decide (o.items.length ≤ 40)
theorem fits_inv {o : Ob} (h : o.fits = true) : o.isSq = true ∧ 0 < o.items.length ∧ o.items.length ≤ 40 ∧ o.items.all Ob.isKn = true ∧ Asc (o.items.map Ob.kn) := by
  unfold Ob.fits Ob.areK at h
  simp only [Bool.and_eq_true, Bool.not_eq_true', decide_eq_true_eq, decide_eq_false_iff_not] at h
  exact ⟨h.1.1.1.1, by omega, h.2, h.1.1.2, asc_iff.mp h.1.2⟩
/-- a list or a tuple that may change, of things that don't -/
def rQ2 {α : Type} (A : Rp α) (K : Fg) (N : Ms) (H : Hp) (v : V) (as : List α) : Prop := ∃ p vs, v = .ref p ∧ (LstM K (fun _ => False) H p vs ∨ TupM K (fun _ => False) H p vs) ∧ Paired (A K N H) vs as
theorem LstM.no {K : Fg} {M : Ms} {H : Hp} {a : Addr} {xs : List V} (h : LstM K M H a xs) : LstM K (fun _ => False) H a xs := h.elim (fun z => .inl ⟨fun z => z, z.2⟩) .inr
theorem TupM.no {K : Fg} {M : Ms} {H : Hp} {a : Addr} {xs : List V} (h : TupM K M H a xs) : TupM K (fun _ => False) H a xs := h.elim (fun z => .inl ⟨fun z => z, z.2⟩) .inr
theorem rQ2.same {α : Type} {A : Rp α} [Mono A] {K : Fg} {N : Ms} {H H' : Hp} {v : V} {as : List α} (s : Same H H') (h : rQ2 A K N H v as) : rQ2 A K N H' v as :=
  let ⟨p, vs, e, l, r⟩ := h; ⟨p, vs, e, l.imp (fun z => z.mono (Ext.of_same s).tr) (fun z => z.mono (Ext.of_same s).tr), Prd.same s r⟩
theorem s_list2 {α : Type} {A : Rp α} [Mono A] {K : Fg} {N : Ms} {H : Hp} {x : V} {as : List α} {Q : VK} (h : rQ2 A K N H x as) (w : Own N H) (q : ∀ v H', Same H H' → rL A K N H' v as → Q v H') : rListC K [x] H Q := by
  obtain ⟨p, vs, rfl, l, r⟩ := h
  refine ⟨p, vs, rfl, l.imp LstM.sq TupM.sq, fun c n => q _ _ (Same.upd_new n) ⟨c, vs, rfl, .inl ⟨w.fresh n, .inl upd_same⟩, Prd.same (Same.upd_new n) r⟩⟩
theorem rQ.two {K : Fg} {N : Ms} {H : Hp} {v : V} {as : List Kn} (h : rQ rKn K N H v as) : rQ2 rKn K N H v as := by
  rcases h with ⟨p, vs, e, l, r⟩ | ⟨p, vs, e, l, r⟩
  · exact ⟨p, vs, e, .inl l.no, r⟩
  · exact ⟨p, vs, e, .inr l.no, r⟩
/-- M: the world of what is handed in; N: that of what is made -/
def sp_initO (C C_NoTable : Addr) (K : Fg) : Sp := fun vs H Q E => ∃ (M N : Ms) (p dx : Addr) (v : V) (o : Ob) (j : Nat), vs = [.ref p, v] ∧ H p = some (.ins C dx []) ∧ N p ∧ rOb K M H v o ∧ Own M H ∧ (o.fits = true → rQ2 rKn K N H v (o.items.map Ob.kn)) ∧ OBd j o ∧ j < 2000 ∧ o.items.length < 90000 ∧ Own N H ∧
  (o.fits = true → ∀ lk lp H', (∀ b o, H b = some o → b ≠ p → H' b = some o) → H' p = some (.ins C dx (fTt lk lp)) → rKs K N H' (.ref lk) (o.items.map Ob.kn) → rKs K N H' (.ref lp) (plainK (o.items.map Ob.kn)) → Q .non H') ∧ (o.fits = false → ∀ H', Same H H' → E (.ref C_NoTable) none H')
section
variable {P : Program} {w : World} {K : PySem.W.Frag} {mg : Str → Option Value} {base : Heap}
theorem ok_Timetable___init__ {C C_NoTable : Addr} {f : Addr} {fd : FuncData} (F : Fun K "__init__" "Timetable.__init__" s_Timetable___init__ f fd) (TC : TtC K mg C) (x_NoTable : ExC K mg "NoTable" C_NoTable) (G_are_knots : Cal P w K mg base CX0 4 "are_knots" ["value"] [] (sp_areKO K)) (G_plain_knots : Cal P w K mg base CX0 4 "plain_knots" ["knots"] [] (sp_plainK K)) (z_len : mg "len" = none) (z_list : mg "list" = none) : FnOk P w K mg base (L2.CX P w) 5 f fd ["self", "knots"] (sp_initO C C_NoTable K) := by
  refine F.okX (k := 4) sc_Timetable___init__ (fun vs H Q E h => ?_) (fun cdv A outer s H vs Q E hr h => ?_)
  · obtain ⟨M, N, p, dx, v, o, j, rfl, hp, np, hv, owM, hpr, hb, hj, hn, ow, q, qe⟩ := h; rfl
  · obtain ⟨M, N, p, dx, v, o, j, rfl, hp, np, hv, owM, hpr, hb, hj, hn, ow, q, qe⟩ := h
    refine ⟨_, (pss_cons (ps_if (PW.pt (pw_or (pt_not (pt_val (pe_cal G_are_knots (hr.mono (by decide)) (by rfl) pass0 (pa_cons (pv 1) pa_nil)))) (pw_or1 (pt_cmpR op_gt (pe_callB (callLenK K) (by rfl) z_len (by decide +kernel) (pa_cons (pv 1) pa_nil)) (ClX.pe_cval (pe_glob (v := .ref C) (by rfl) TC.mgC rfl)) (nomark _))))) (pss_one (ps_raiseT x_NoTable (by rfl))) pss_nil)
      (pss_cons (ps_fld (pv 0) (pe_callTy (callListK K) (by rfl) z_list (by decide +kernel) (pa_cons (pv 1) pa_nil)) rfl)
      (pss_one (ps_fld (pv 0) (pe_cal G_plain_knots (hr.mono (by decide)) (by rfl) pass0 (pa_cons (peFldK K (pv 0)) pa_nil)) rfl)))), ?_⟩
    rw [st_Timetable___init__]
    try simp only [cxK, cxK2]

    walk_at "my_go"
    rename_i H1 s1
    cases hk : o.areK with
    | false =>
      walk_at "my_go"
      exact s_raise (qe (by unfold Ob.fits; rw [hk]; rfl) _ s1)
    | true =>
      have hs : o.isSq = true := by
        unfold Ob.areK at hk
        simp only [Bool.and_eq_true] at hk
        exact hk.1.1.1
      have hq1 : rQ rOb K M H1 v o.items := ob_seq (Rp.same s1 hv) hs
      walk_at "my_go"
      refine s_lenQ hq1 ?_
      walk_at "my_go"
      by_cases h40 : o.items.length ≤ 40
      · have hf : o.fits = true := by unfold Ob.fits; rw [hk, decide_eq_true h40]; rfl
        obtain ⟨_, h0, _, hak, hasc⟩ := fits_inv hf
        have hpr1 := (hpr hf).same s1
        have q := q hf
        have kb := OBd.kb hb.items hak
        rw [decide_eq_false (by omega)]
        have el : o.items.length = (o.items.map Ob.kn).length := by rw [List.length_map]
        rw [el] at h0 h40
        generalize o.items.map Ob.kn = ks at *
        walk_at "my_go"
        refine s_list2 hpr1 (ow.same s1) ?_
        intro vk H2 s2 r2
        obtain ⟨lk, kvs, rfl, hl2, pr2⟩ := id r2
        have hp2 : H2 p = some (.ins C dx []) := s2 _ _ (s1 _ _ hp)
        have ow2 : Own N H2 := (ow.same s1).same s2
        walk_at "my_go"
        refine ⟨p, C, dx, [], rfl, hp2, TC.cl, TC.nK, by decide, ?_⟩
        have b3 : But p p H2 (upd H2 p (.ins C dx (putF "_knots" (.ref lk) []))) := ⟨fun b o e n _ => by rw [upd_ne n]; exact e, by rw [upd_same]; simp, by rw [upd_same]; simp⟩
        have e3 : (upd H2 p (.ins C dx (putF "_knots" (.ref lk) []))) p = some (.ins C dx (putF "_knots" (.ref lk) [])) := upd_same
        generalize (upd H2 p (.ins C dx (putF "_knots" (.ref lk) []))) = H3 at *
        have r3 : rKs K N H3 (.ref lk) ks := Rp.but b3 np np r2
        have ow3 : Own N H3 := Own.but b3 ow2
        walk_at "my_go"
        refine ⟨p, C, dx, _, _, rfl, e3, TC.cl, TC.nK, by rw [lookup_putF, if_pos rfl], ?_⟩
        walk_at "my_go"
        rename_i v4 H4 s4 r4
        obtain ⟨lp, pvs, rfl, hl4, pr4⟩ := id r4
        have e4 := s4 _ _ e3
        refine ⟨p, C, dx, _, rfl, e4, TC.cl, TC.nP, by have := length_putF "_knots" (.ref lk) []; simp at this; omega, ?_⟩
        have b5 : But p p H4 (upd H4 p (.ins C dx (fTt lk lp))) := ⟨fun b o e n _ => by rw [upd_ne n]; exact e, by rw [upd_same]; simp, by rw [upd_same]; simp⟩
        refine q lk lp _ (fun b o e n => b5.kp b o (s4 _ _ (b3.kp b o (s2 _ _ (s1 _ _ e)) n n)) n n) upd_same (Rp.but b5 np np (Rp.same s4 r3)) (Rp.but b5 np np r4)
      · rw [decide_eq_true (by omega)]
        walk_at "my_go"
        exact s_raise (qe (by unfold Ob.fits; rw [hk, decide_eq_false h40]; rfl) _ s1)
end
abbrev s_fraction_text : Stmt := topS 28
theorem sc_fraction_text : FnScope ["a", "n", "d"] ["a"] (defScope s_fraction_text) := ⟨rfl, rfl, rfl, by decide +kernel, rfl, by decide +kernel, by decide +kernel⟩
theorem st_fraction_text {x0 : V} : L2.start ["a", "n", "d"] [x0] = [some x0, none, none] := rfl

def sp_fText (K : Fg) : Sp := fun vs H Q _ => ∃ (M : Ms) (x : V) (q : Rat), vs = [x] ∧ rFr K M H x q ∧ D60 q ∧ Q (.str (SX.S (fT q))) H
theorem c_fText {K : Fg} {M : Ms} {H : Hp} {Q : VK} {E : XK} {x : V} {q : Rat} (h : rFr K M H x q) (d : D60 q) (k : Q (.str (SX.S (fT q))) H) : sp_fText K ([x] ++ []) H Q E := ⟨M, x, q, rfl, h, d, k⟩
section
variable {P : Program} {w : World} {K : PySem.W.Frag} {mg : Str → Option Value} {base : Heap}
theorem ok_fraction_text {f : Addr} {fd : FuncData} (F : Fun K "fraction_text" "fraction_text" s_fraction_text f fd)  : FnOk P w K mg base CX0 1 f fd ["a"] (sp_fText K) := by
  refine F.ok (k := 0) sc_fraction_text (fun vs H Q E h => ?_) (fun cdv A outer s H vs Q E hr h => ?_)
  · obtain ⟨M, x, q, rfl, h, d, k⟩ := h; rfl
  · obtain ⟨M, x, q, rfl, h, d, k⟩ := h
    refine ⟨_, (pss_cons (ps_asg (pv 0) (pgTupK (n := 2) K rfl (pgs_cons (pg_name (i := 1) sc_fraction_text.nd rfl (by first | exact Or.inl rfl | exact Or.inr rfl)) (pgs_cons (pg_name (i := 2) sc_fraction_text.nd rfl (by first | exact Or.inl rfl | exact Or.inr rfl)) pgs_nil))))
      (pss_one (ps_ret (pe_ifExp (pt_cmpR (opEqK K hr.units) (pv 2) pe_int (nomark _)) (pe_joined1 (pe_fmt (pv 1))) (pe_joined (PJ.cons (pe_fmt (pv 1)) (PJ.cons pe_str (PJ.cons (pe_fmt (pv 2)) PJ.nil)))))))), ?_⟩
    rw [st_fraction_text]
    try simp only [cxK, cxK2]

    have h2 : rT2 rInt rInt K M H x (q.num, (q.den : Int)) := let ⟨p, e, z⟩ := h; ⟨p, _, _, e, z, rfl, rfl⟩
    walk_at "my_go"
    rename_i y1 y2 q1 q2
    obtain rfl : y1 = V.int q.num := q1
    obtain rfl : y2 = V.int (q.den : Int) := q2
    walk_at "my_go"
    by_cases h1 : (q.den : Int) = 1
    · rw [decide_eq_true h1]
      walk_at "my_go"
      rw [fT_one h1] at k
      exact ⟨_, rfl, s_fmtI d.1 k⟩
    · rw [decide_eq_false h1]
      walk_at "my_go"
      refine js_int (acc := []) (fun R r => ⟨_, rfl, r⟩) d.1 (by decide) ?_
      have l1 := intL_len d.1
      have l2 := intL_len (den_abs d)
      rw [List.nil_append]
      refine js_con tx_slash (by rw [List.length_cons, List.length_nil]; omega) ?_
      refine js_int (fun R r => ⟨_, rfl, r⟩) (den_abs d) (by rw [List.length_append, List.length_cons, List.length_nil]; omega) ?_
      refine js_end ?_
      rw [fT_two h1, ← List.append_assoc] at k
      exact k
end
abbrev s_is_natural : Stmt := topS 29
theorem sc_is_natural : FnScope ["word", "digit"] ["word"] (defScope s_is_natural) := ⟨rfl, rfl, rfl, by decide +kernel, rfl, by decide +kernel, by decide +kernel⟩
theorem st_is_natural {x0 : V} : L2.start ["word", "digit"] [x0] = [some x0, none] := rfl

def sp_isNat (K : Fg) : Sp := fun vs H Q _ => ∃ (M : Ms) (w : V) (l : List Nat), vs = [w] ∧ rTx K M H w l ∧ l.length ≤ 90000 ∧ Own M H ∧ ∀ H', Same H H' → Q (.bl (natB l)) H'
theorem c_isNat {K : Fg} {M : Ms} {H : Hp} {Q : VK} {E : XK} {w : V} {l : List Nat} (h : rTx K M H w l) (hn : l.length ≤ 90000) (ow : Own M H) (q : ∀ H', Same H H' → Q (.bl (natB l)) H') : sp_isNat K ([w] ++ []) H Q E := ⟨M, w, l, rfl, h, hn, ow, q⟩
section
variable {P : Program} {w : World} {K : PySem.W.Frag} {mg : Str → Option Value} {base : Heap}
theorem ok_is_natural {f : Addr} {fd : FuncData} (F : Fun K "is_natural" "is_natural" s_is_natural f fd) (z_all : mg "all" = none) (z_len : mg "len" = none) (u_DIGITS : CstV mg "DIGITS" (.str "0123456789")) (u_MOST_DIGITS : CstV mg "MOST_DIGITS" (.int 60)) : FnOk P w K mg base CX0 1 f fd ["word"] (sp_isNat K) := by
  refine F.ok (k := 0) sc_is_natural (fun vs H Q E h => ?_) (fun cdv A outer s H vs Q E hr h => ?_)
  · obtain ⟨M, w, l, rfl, hw, hn, ow, q⟩ := h; rfl
  · obtain ⟨M, w, l, rfl, hw, hn, ow, q⟩ := h
    refine ⟨_, (pss_cons (ps_if (PW.pt (pw_or (pt_not (pt_chain op_le op_le pe_int (pe_callB call_len_str (by rfl) z_len (by decide +kernel) (pa_cons (pv 0) pa_nil)) (C8.pe_gc (v := .int 60) (by rfl) u_MOST_DIGITS))) (pw_or1 (pt_not (pt_val (pe_callB (callAllK K rfl) (by rfl) z_all (by decide +kernel) (pa_cons (pe_lc (own := [("digit", 1)]) rfl sc_is_natural.nd (pi_str (pv 0)) (blkOk_by (own := [("digit", 1)]) (N := ["word", "digit"]) (sc := defScope s_is_natural) (by decide +kernel)) (fun _ _ _ _ _ => (pg_name (i := 1) sc_is_natural.nd rfl (by first | exact Or.inl rfl | exact Or.inr rfl))) (fun _ _ _ _ _ => pts_nil) (fun _ _ _ _ _ => (pe_cmpR op_in_sign (pv 1) (C8.pe_gc (v := .str "0123456789") (by rfl) u_DIGITS) (by rfl)))) pa_nil))))))) (pss_one (ps_ret pe_bl)) pss_nil)
      (pss_one (ps_ret (pe_or (pe_cmpR (opEqK K hr.units) (pv 0) pe_str (nomark _)) (pe_one (pe_cmpR (opNeK K hr.units) (pe_item_str (pv 0) pe_int (fun _ _ => rfl)) pe_str (nomark _))))))), ?_⟩
    rw [st_is_natural]
    try simp only [cxK, cxK2]

    obtain rfl : w = .str (SX.S l) := hw
    walk_at "my_go"
    refine ⟨_, rfl, _, rfl, by rw [SX.S_len]; exact Nat.le_trans (show _ ≤ 100000 by omega) (by decide), ?_⟩
    rw [SX.S_len]
    have bad1 : l.all isDig = false → Q (.bl false) = Q (.bl (natB l)) := fun z => by
      unfold natB
      rw [z, Bool.and_false, Bool.false_and]
    by_cases h1 : 1 ≤ l.length
    · refine ⟨1, _, rfl, rfl, true, congrArg V.bl (decide_eq_true (by omega)), ?_⟩
      rw [if_pos rfl]
      by_cases h2 : l.length ≤ 60
      · refine ⟨_, 60, rfl, rfl, true, congrArg V.bl (decide_eq_true (by omega)), ?_⟩
        walk_at "my_go"
        refine s_lcS ?_
        refine ⟨_, rfl, _, rfl, ?_⟩
        refine lc_str (B := rBl) (K := K) (M := M) (fun _ => true) isDig ow (by omega) ?_ ?_
        · rintro i c v M' H2 Z N hi ht hw rfl hZ hN
          walk_at "my_go"
          refine ⟨c, SX.S [48, 49, 50, 51, 52, 53, 54, 55, 56, 57], rfl, congrArg V.str tx_digits, ?_⟩
          rw [in_dig]
          exact hZ rfl _ _ (Same.refl _) rfl
        intro v2 H2 s2 r2
        walk_at "my_go"
        refine s_all r2.l ?_
        rw [List.filter_eq_self.mpr (fun _ _ => rfl), show (l.map isDig).all id = l.all isDig by rw [List.all_map]; rfl]
        cases hd : l.all isDig
        · walk_at "my_go"
          show Q (.bl false) _
          rw [bad1 hd]
          exact q _ s2
        · walk_at "my_go"
          by_cases l48 : l = [48]
          · have e : V.str (SX.S l) = V.str (Str.ofString "0") := by rw [l48, tx_zero]
            refine .inl ⟨rfl, ?_⟩
            rw [decide_eq_true e]
            refine ⟨true, rfl, ?_⟩
            rw [if_pos rfl]
            have en : natB l = true := by subst l48; rfl
            rw [en] at q
            exact q _ s2
          · have e : ¬ V.str (SX.S l) = V.str (Str.ofString "0") := fun z => by
              rw [tx_zero] at z
              exact l48 (SX.S_inj (V.str.inj z))
            obtain ⟨c, hc⟩ : ∃ c, l[0]? = some c := ⟨l[0]'(by omega), List.getElem?_eq_getElem (by omega)⟩
            refine .inl ⟨rfl, ?_⟩
            rw [decide_eq_false e]
            refine ⟨false, rfl, ?_⟩
            rw [if_neg Bool.false_ne_true]
            walk_at "my_go"
            refine ⟨_, 0, c, rfl, rfl, Int.le_refl _, by decide, by rw [SX.S_len]; omega, by simpa using hc, ?_⟩
            walk_at "my_go"
            have en : natB l = !decide (c = 48) := by
              unfold natB
              rw [hd, decide_eq_true h1, decide_eq_true h2, hc, decide_eq_false l48]
              by_cases z : c = 48
              · subst z; rfl
              · rw [decide_eq_false (fun y => z (Option.some.inj y)), decide_eq_false z]; rfl
            by_cases c48 : c = 48
            · have e : V.str ⟨#[c]⟩ = V.str (Str.ofString "0") := by subst c48; rw [tx_zero]
              refine .inl ⟨rfl, ?_⟩
              rw [decide_eq_true e]
              rw [en, decide_eq_true c48] at q
              exact q _ s2
            · have e : ¬ V.str ⟨#[c]⟩ = V.str (Str.ofString "0") := fun z => by
                rw [tx_zero] at z
                exact c48 (List.cons.inj (SX.S_inj (V.str.inj z) : [c] = [48])).1
              refine .inl ⟨rfl, ?_⟩
              rw [decide_eq_false e]
              rw [en, decide_eq_false c48] at q
              exact q _ s2
      · refine ⟨_, 60, rfl, rfl, false, congrArg V.bl (decide_eq_false (by omega)), ?_⟩
        walk_at "my_go"
        have en : natB l = false := by unfold natB; rw [decide_eq_false h2, Bool.and_false, Bool.false_and, Bool.false_and]
        rw [en] at q
        exact q _ (Same.refl _)
    · refine ⟨1, _, rfl, rfl, false, congrArg V.bl (decide_eq_false (by omega)), ?_⟩
      walk_at "my_go"
      have en : natB l = false := by unfold natB; rw [decide_eq_false h1, Bool.false_and, Bool.false_and, Bool.false_and]
      rw [en] at q
      exact q _ (Same.refl _)
end
abbrev s_read_fraction : Stmt := topS 30
theorem sc_read_fraction : FnScope ["word", "parts", "n", "value", "part"] ["word"] (defScope s_read_fraction) := ⟨rfl, rfl, rfl, by decide +kernel, rfl, by decide +kernel, by decide +kernel⟩
theorem st_read_fraction {x0 : V} : L2.start ["word", "parts", "n", "value", "part"] [x0] = [some x0, none, none, none, none] := rfl

theorem fOf_parts2 {q : Rat} {l : List Nat} (h : fOf l = some q) : (SP 47 (bare l)).length ≤ 2 ∧ (SP 47 (bare l)).all natB = true ∧ sg l (dval ((SP 47 (bare l)).getD 0 [])) = q.num ∧
    (if (SP 47 (bare l)).length = 1 then 1 else dval ((SP 47 (bare l)).getD 1 [])) = q.den := by
  obtain ⟨d, _⟩ := fOf_spec h
  obtain ⟨e, s⟩ := fOf_parts h
  rw [e]
  refine ⟨(fU_len q).2, List.all_eq_true.mpr fun p hp => natB_iff.mpr (fU_nat d p hp), ?_, ?_⟩
  · rw [List.getD_eq_getElem?_getD, fU_0]
    show sg l (dval (TL.numL q.num.natAbs)) = _
    rw [dval_numL]
    unfold sg
    by_cases z : l[0]? = some 45
    · rw [if_pos z]
      have := s.mp z
      omega
    · rw [if_neg z]
      have : ¬ q.num < 0 := fun y => z (s.mpr y)
      omega
  · by_cases w : q.den = 1
    · rw [if_pos (fU_11 w), w]
    · have := fU_1 w
      rw [if_neg (by omega), List.getD_eq_getElem?_getD, this.1]
      exact dval_numL _
def sp_readFo (K : Fg) : Sp := fun vs H Q _ => ∃ (M : Ms) (w : V) (l : List Nat), vs = [w] ∧ rTx K M H w l ∧ l.length ≤ 90000 ∧ Own M H ∧ ∀ v H', Same H H' → rOp rFr K M H' v (fOf l) → Q v H'
theorem c_readFo {K : Fg} {M : Ms} {H : Hp} {Q : VK} {E : XK} {w : V} {l : List Nat} (h : rTx K M H w l) (hn : l.length ≤ 90000) (ow : Own M H) (q : ∀ v H', Same H H' → rOp rFr K M H' v (fOf l) → Q v H') : sp_readFo K ([w] ++ []) H Q E := ⟨M, w, l, rfl, h, hn, ow, q⟩
section
variable {P : Program} {w : World} {K : PySem.W.Frag} {mg : Str → Option Value} {base : Heap}
theorem ok_read_fraction {f : Addr} {fd : FuncData} (F : Fun K "read_fraction" "read_fraction" s_read_fraction f fd) (G_fraction_text : Cal P w K mg base CX0 1 "fraction_text" ["a"] [] (sp_fText K)) (G_is_fraction : Cal P w K mg base CX0 2 "is_fraction" ["value"] [] (sp_isFrac K)) (G_is_natural : Cal P w K mg base CX0 1 "is_natural" ["word"] [] (sp_isNat K)) (z_all : mg "all" = none) (z_int : mg "int" = none) (z_len : mg "len" = none) : FnOk P w K mg base CX0 3 f fd ["word"] (sp_readFo K) := by
  refine F.ok (k := 2) sc_read_fraction (fun vs H Q E h => ?_) (fun cdv A outer s H vs Q E hr h => ?_)
  · obtain ⟨M, w, l, rfl, hw, hn, ow, q⟩ := h; rfl
  · obtain ⟨M, w, l, rfl, hw, hn, ow, q⟩ := h
    refine ⟨_, (pss_cons (ps_set (i := 1) sc_read_fraction.nd rfl (by first | exact Or.inl rfl | exact Or.inr rfl) (pe_ifExp (pt_val (pe_m1 PySem.F.slot_str_startswith PySem.F.type_str_startswith mt_startswith (pv 0) pe_str)) (pe_split (pe_slice C8.sl_txt (pv 0) (po_some pe_int) po_none) pe_str) (pe_split (pv 0) pe_str)))
      (pss_cons (ps_if (PW.pt (pw_or (pt_cmpR op_gt (pe_callB (callLenK K) (by rfl) z_len (by decide +kernel) (pa_cons (pv 1) pa_nil)) pe_int (nomark _)) (pw_or1 (pt_not (pt_val (pe_callB (callAllK K rfl) (by rfl) z_all (by decide +kernel) (pa_cons (pe_lc (own := [("part", 4)]) rfl sc_read_fraction.nd (piListK K (pv 1)) (blkOk_by (own := [("part", 4)]) (N := ["word", "parts", "n", "value", "part"]) (sc := defScope s_read_fraction) (by decide +kernel)) (fun _ _ _ _ _ => (pg_name (i := 4) sc_read_fraction.nd rfl (by first | exact Or.inl rfl | exact Or.inr rfl))) (fun _ _ _ _ _ => pts_nil) (fun _ _ _ _ _ => (pe_cal G_is_natural (hr.mono (by decide)) (by rfl) pass0 (pa_cons (pv 4) pa_nil)))) pa_nil))))))) (pss_one (ps_ret pe_non)) pss_nil)
      (pss_cons (ps_set (i := 2) sc_read_fraction.nd rfl (by first | exact Or.inl rfl | exact Or.inr rfl) (pe_ifExp (pt_val (pe_m1 PySem.F.slot_str_startswith PySem.F.type_str_startswith mt_startswith (pv 0) pe_str)) (pe_un un_neg (pe_callTy call_int_str (by rfl) z_int (by decide +kernel) (pa_cons (pe_ix (ixSeq K) (pv 1) pe_int (fun _ _ => rfl)) pa_nil))) (pe_callTy call_int_str (by rfl) z_int (by decide +kernel) (pa_cons (pe_ix (ixSeq K) (pv 1) pe_int (fun _ _ => rfl)) pa_nil))))
      (pss_cons (ps_set (i := 3) sc_read_fraction.nd rfl (by first | exact Or.inl rfl | exact Or.inr rfl) (pe_tup (pa_cons (pv 2) (pa_cons (pe_ifExp (pt_cmpR (opEqK K hr.units) (pe_callB (callLenK K) (by rfl) z_len (by decide +kernel) (pa_cons (pv 1) pa_nil)) pe_int (nomark _)) pe_int (pe_callTy call_int_str (by rfl) z_int (by decide +kernel) (pa_cons (pe_ix (ixSeq K) (pv 1) pe_int (fun _ _ => rfl)) pa_nil))) pa_nil))))
      (pss_one (ps_ret (pe_ifExp (PW.pt (pw_and (pt_val (pe_cal G_is_fraction (hr.mono (by decide)) (by rfl) pass0 (pa_cons (pv 3) pa_nil))) (pw_and1 (pt_cmpR (opEqK K hr.units) (pe_cal G_fraction_text (hr.mono (by decide)) (by rfl) pass0 (pa_cons (pv 3) pa_nil)) (pv 0) (nomark _))))) (pv 3) pe_non))))))), ?_⟩
    rw [st_read_fraction]
    try simp only [cxK, cxK2]

    obtain rfl : w = .str (SX.S l) := hw
    obtain ⟨bl, bm⟩ := bare_len l
    have big : ∀ {n : Nat}, n ≤ 100000 → n ≤ sizeLine := fun h => Nat.le_trans h (by decide)
    have cno : ∀ {H'}, fOf l = none → Same H H' → Q .non H' := fun e s => q _ _ s (by rw [e]; rfl)
    refine s_cut (fun σ' H' => ∃ v, σ' = [some (.str (SX.S l)), some v, none, none, none] ∧ Same H H' ∧ rS rTx K M H' v (SP 47 (bare l))) ?_ ?_
    · rintro σ1 H1 ⟨v1, rfl, s1, r1⟩
      have ow1 := ow.same s1
      have pl := SP_len 47 (bare l)
      have pn := SP_ne 47 (bare l)
      have lf := fun q => fOf_parts2 (l := l) (q := q)
      generalize SP 47 (bare l) = ps at *
      walk_at "my_go"
      refine s_len r1.l ?_
      walk_at "my_go"
      by_cases h2 : 2 < ps.length
      · rw [decide_eq_true (by omega)]
        walk_at "my_go"
        refine cno ?_ s1
        cases hf : fOf l with
        | none => rfl
        | some z => have := (lf z hf).1; omega
      rw [decide_eq_false (by omega)]
      walk_at "my_go"
      refine lc_map (A := rTx) (B := rBl) (M := M) ps (fun _ => true) natB r1.l ow1 (by omega) ?_ ?_
      · rintro i p vp M' H2 Z N hi ht hw2 rp hZ hN
        have b5 := pl.2 _ (List.mem_of_getElem? hi)
        walk_at "my_go"
        refine c_isNat rp (by omega) hw2 ?_
        intro H3 s3
        exact hZ rfl _ _ s3 rfl
      intro D2 vs2 H2 f2 s2 e2 p2 r2
      rw [List.filter_eq_self.mpr (fun _ _ => rfl)] at r2
      walk_at "my_go"
      refine s_all r2 ?_
      rw [show (ps.map natB).all id = ps.all natB by rw [List.all_map]; rfl]
      have s02 := s1.trans s2
      have ow2 := ow.same s02
      have r2' : rS rTx K M H2 v1 ps := Rp.same s2 r1
      cases ha : ps.all natB
      · walk_at "my_go"
        refine cno ?_ s02
        cases hf : fOf l with
        | none => rfl
        | some z => have := (lf z hf).2.1; rw [ha] at this; cases this
      have nat : ∀ p ∈ ps, ∃ n, p = TL.numL n ∧ n < 10 ^ 60 := fun p hp => natB_iff.mp (List.all_eq_true.mp ha p hp)
      obtain ⟨k, hk⟩ : ∃ k, ps.length = k + 1 := ⟨ps.length - 1, by have := List.length_pos_iff.mpr pn; omega⟩
      have e0 : ps[0]? = some (ps.getD 0 []) := by rw [List.getD_eq_getElem?_getD, List.getElem?_eq_getElem (by omega)]; rfl
      obtain ⟨n0, en0, n60⟩ := nat _ (List.mem_of_getElem? e0)
      have ed0 : dval (ps.getD 0 []) = n0 := by rw [en0]; exact dval_numL _
      have ln0 := numL_len60 n60
      refine ⟨true, rfl, ?_⟩
      rw [if_neg (by decide)]
      unfold tNext
      dsimp only
      refine s_cut (fun σ' H' => σ' = [some (.str (SX.S l)), some v1, some (.int (sg l n0)), none, none] ∧ H' = H2) ?_ ?_
      · rintro σ3 H3 ⟨rfl, rfl⟩
        have fin : ∀ m : Nat, m < 10 ^ 60 → m = (if ps.length = 1 then 1 else dval (ps.getD 1 [])) → ∀ D : Ends, D.rt = Q → NewT [V.int (sg l n0), V.int (m : Int)] H3 (fun x H1 => (tRet (tIf (tAnd (tB (tCall (sp_isFrac K) [] E0 (tCons (tVar 3) tNil))) (tTest (tOp (rEqA K) (tCall (sp_fText K) [] E0 (tCons (tVar 3) tNil)) (tVar 0)))) (tVar 3) (tC V.non))) D [some (.str (SX.S l)), some v1, some (.int (sg l n0)), some x, none] H1) := fun m hm em D hD => by
          refine s_newT (K := K) ow2 fun p4 H4 s4 ow4 t4 => ?_
          have hob : rOb K M H4 (.ref p4) (.tup [.int (sg l n0), .int m]) := .tup t4 (OAs.of_prd (.cons (.int _) (.cons (.int _) .nil)))
          have s04 := s02.trans s4
          have lf2 : ∀ z, fOf l = some z → sg l n0 = z.num ∧ m = z.den := fun z hf => by
            obtain ⟨_, _, z3, z4⟩ := lf z hf
            rw [ed0] at z3
            exact ⟨z3, em.trans z4⟩
          walk_at "my_go"
          cases hfr : (Ob.tup [Ob.int (sg l n0), Ob.int (m : Int)]).isFr
          · walk_at "my_go"
            rw [hD]
            refine cno ?_ s04
            cases hf : fOf l with
            | none => rfl
            | some z =>
              obtain ⟨z1, z2⟩ := lf2 z hf
              have : (Ob.tup [Ob.int (sg l n0), Ob.int (m : Int)]).isFr = true := by
                unfold Ob.isFr
                rw [z1, z2]
                simp only [Bool.and_eq_true, decide_eq_true_eq]
                have := z.den_pos
                exact ⟨by omega, by rw [Int.natAbs_natCast]; exact z.reduced⟩
              rw [hfr] at this
              cases this
          · unfold Ob.isFr at hfr
            simp only [Bool.and_eq_true, decide_eq_true_eq] at hfr
            obtain ⟨q1, q2⟩ := fr_parts hfr.1 hfr.2
            have r4 : rFr K M H4 (.ref p4) ((sg l n0 : Rat) / ((m : Int) : Rat)) := ⟨p4, rfl, by rw [q1, q2]; exact t4⟩
            have d4 : D60 ((sg l n0 : Rat) / ((m : Int) : Rat)) := ⟨by rw [q1, sg_abs]; exact n60, by omega⟩
            have uq : ∀ z, fOf l = some z → z = (sg l n0 : Rat) / ((m : Int) : Rat) := fun z hf => by
              obtain ⟨z1, z2⟩ := lf2 z hf
              exact q_ext (by rw [q1, z1]) (by rw [q2, z2])
            generalize (sg l n0 : Rat) / ((m : Int) : Rat) = qq at *
            walk_at "my_go"
            refine c_fText r4 d4 ?_
            walk_at "my_go"
            refine .inl ⟨rfl, ?_⟩
            by_cases ht : fT qq = l
            · rw [decide_eq_true (by rw [ht])]
              walk_at "my_go"
              rw [hD]
              refine q _ _ s04 ?_
              rw [fOf_some d4 ht]
              exact r4
            · rw [decide_eq_false (fun z => ht (SX.S_inj (V.str.inj z)))]
              walk_at "my_go"
              rw [hD]
              refine cno ?_ s04
              cases hf : fOf l with
              | none => rfl
              | some z => exact absurd (uq z hf ▸ (fOf_spec hf).2) ht
        walk_at "my_go"
        refine s_len r2'.l ?_
        walk_at "my_go"
        by_cases hl : ps.length = 1
        · rw [decide_eq_true (by omega)]
          walk_at "my_go"
          exact fin 1 (by decide) (by rw [if_pos hl]) _ rfl
        · have e1 : ps[1]? = some (ps.getD 1 []) := by rw [List.getD_eq_getElem?_getD, List.getElem?_eq_getElem (by omega)]; rfl
          obtain ⟨n1, en1, n160⟩ := nat _ (List.mem_of_getElem? e1)
          have ln1 := numL_len60 n160
          rw [decide_eq_false (by omega)]
          walk_at "my_go"
          refine s_ixL (j := 1) r2'.l e1 (ixN_nat (j := 1) (by omega)) ?_
          rintro y rfl
          walk_at "my_go"
          rw [en1]
          refine ⟨_, _, rfl, int_num _ n160, by rw [SX.S_len]; omega, ?_⟩
          walk_at "my_go"
          exact fin n1 n160 (by rw [if_neg hl, en1, dval_numL]) _ rfl
      · intro N3 hN3
        walk_at "my_go"
        refine ⟨_, rfl, ⟨_, rfl⟩, _, SX.S [45], rfl, by rw [tx_minus], ?_⟩
        rw [starts_one]
        by_cases hn : l[0]? = some 45
        · rw [decide_eq_true hn]
          refine ⟨true, rfl, ?_⟩
          rw [if_pos rfl]
          walk_at "my_go"
          refine s_ixL (j := 0) r2'.l e0 (ixN_nat (j := 0) (by omega)) ?_
          rintro y rfl
          walk_at "my_go"
          rw [en0]
          refine ⟨_, _, rfl, int_num _ n60, by rw [SX.S_len]; omega, ?_⟩
          walk_at "my_go"
          refine hN3 _ _ ⟨?_, rfl⟩
          unfold sg
          rw [if_pos hn]
        · rw [decide_eq_false hn]
          refine ⟨false, rfl, ?_⟩
          rw [if_neg Bool.false_ne_true]
          walk_at "my_go"
          refine s_ixL (j := 0) r2'.l e0 (ixN_nat (j := 0) (by omega)) ?_
          rintro y rfl
          walk_at "my_go"
          rw [en0]
          refine ⟨_, _, rfl, int_num _ n60, by rw [SX.S_len]; omega, ?_⟩
          walk_at "my_go"
          refine hN3 _ _ ⟨?_, rfl⟩
          unfold sg
          rw [if_neg hn]
    · intro N1 hN1
      have cut : ∀ (R : VK), (∀ p, H p = none → R (.ref p) (upd H p (.lst (((SP 47 (bare l)).map SX.S).map V.str)))) → ∃ a b, V.str (SX.S (bare l)) = V.str a ∧ [V.str (Str.ofString "/")] = [V.str b] ∧ (b.length == 0) = false ∧ a.length + 2 ≤ sizeLine ∧ rNewStrs (Txt.split a b) H R := fun R h =>
        ⟨_, SX.S [47], rfl, by rw [tx_slash], rfl, by rw [SX.S_len]; exact big (by omega), by rw [split_SP (by decide)]; exact h⟩
      walk_at "my_go"
      refine ⟨_, rfl, ⟨_, rfl⟩, _, SX.S [45], rfl, by rw [tx_minus], ?_⟩
      rw [starts_one]
      by_cases hn : l[0]? = some 45
      · rw [decide_eq_true hn]
        refine ⟨true, rfl, ?_⟩
        rw [if_pos rfl]
        have e1 : Txt.slice (SX.S l) (some 1) none = SX.S (bare l) := by rw [SX.slice_from (by decide)]; unfold bare; rw [if_pos hn]; rfl
        refine ⟨_, rfl, 1, rfl, _, rfl, by rw [SX.S_len]; exact big (by omega), ⟨_, rfl⟩, ?_⟩
        rw [e1]
        refine cut _ fun p hp => ?_
        walk_at "my_go"
        exact hN1 _ _ ⟨_, rfl, Same.upd_new hp, rS_txs ow hp⟩
      · rw [decide_eq_false hn]
        refine ⟨false, rfl, ?_⟩
        rw [if_neg Bool.false_ne_true]
        refine ⟨_, rfl, ⟨_, rfl⟩, ?_⟩
        rw [bare_eq.mpr hn] at cut hN1
        refine cut _ fun p hp => ?_
        walk_at "my_go"
        exact hN1 _ _ ⟨_, rfl, Same.upd_new hp, rS_txs ow hp⟩
end
abbrev s_read_knot : Stmt := topS 31
theorem sc_read_knot : FnScope ["word", "knot", "part"] ["word"] (defScope s_read_knot) := ⟨rfl, rfl, rfl, by decide +kernel, rfl, by decide +kernel, by decide +kernel⟩
theorem st_read_knot {x0 : V} : L2.start ["word", "knot", "part"] [x0] = [some x0, none, none] := rfl

theorem s_tupS {α : Type} {A : Rp α} [Mono A] {K : Fg} {M : Ms} {H : Hp} {as : List α} {x : V} {Q : VK} (h : rL A K M H x as) (w : Own M H) (q : ∀ v H', Same H H' → rTp A K M H' v as → Q v H') : rTupC K [x] H Q := by
  obtain ⟨p, vs, rfl, l, r⟩ := h
  exact ⟨p, vs, rfl, .inl ⟨l.sq, fun c n => q _ _ (Same.upd_new n) ⟨c, vs, rfl, .inl ⟨w.fresh n, upd_same⟩, Prd.same (Same.upd_new n) r⟩⟩⟩
theorem rTp_two {α : Type} {A : Rp α} {K : Fg} {M : Ms} {H : Hp} {v : V} {a b : α} (h : rTp A K M H v [a, b]) : rT2 A A K M H v (a, b) := by
  obtain ⟨p, vs, rfl, t, r⟩ := h
  rcases r with _ | ⟨r1, r⟩
  rcases r with _ | ⟨r2, r⟩
  cases r
  exact ⟨p, _, _, rfl, t, r1, r2⟩
def opOb : Option Rat → Ob
  | none => .non
  | some q => frOb q
theorem prd_op {K : Fg} {M : Ms} {H : Hp} : ∀ {vs : List V} {os : List (Option Rat)}, Paired (rOp rFr K M H) vs os → Paired (OA K M H) vs (os.map opOb)
  | _, _, .nil => .nil
  | _, none :: _, .cons h t => .cons (by cases h; exact .non) (prd_op t)
  | _, some q :: _, .cons h t => .cons (fr_ob h) (prd_op t)
theorem op_isKn {l : List Nat} : (Ob.tup (((SP 58 l).map fOf).map opOb)).isKn = (kOf l).isSome := by
  cases hk : kOf l with
  | some k =>
    rw [(kOf_some hk).1]
    exact knOb_isKn k
  | none =>
    show _ = false
    unfold kOf at hk
    match hs : (SP 58 l).map fOf with
    | [] => rfl
    | [_] => rw [isKn_no (by simp)]
    | _ :: _ :: _ :: _ => rw [isKn_no (by simp)]
    | [some t, some x] => rw [hs] at hk; cases hk
    | [none, _] => simp [Ob.isKn, opOb, Ob.isFr]
    | [some _, none] => simp [Ob.isKn, opOb, Ob.isFr]
def sp_readKo (K : Fg) : Sp := fun vs H Q _ => ∃ (M : Ms) (w : V) (l : List Nat), vs = [w] ∧ rTx K M H w l ∧ l.length ≤ 88000 ∧ Own M H ∧ ∀ v H', Same H H' → rOp rKn K M H' v (kOf l) → Q v H'
theorem c_readKo {K : Fg} {M : Ms} {H : Hp} {Q : VK} {E : XK} {w : V} {l : List Nat} (h : rTx K M H w l) (hn : l.length ≤ 88000) (ow : Own M H) (q : ∀ v H', Same H H' → rOp rKn K M H' v (kOf l) → Q v H') : sp_readKo K ([w] ++ []) H Q E := ⟨M, w, l, rfl, h, hn, ow, q⟩
section
variable {P : Program} {w : World} {K : PySem.W.Frag} {mg : Str → Option Value} {base : Heap}
theorem ok_read_knot {f : Addr} {fd : FuncData} (F : Fun K "read_knot" "read_knot" s_read_knot f fd) (G_is_knot : Cal P w K mg base CX0 3 "is_knot" ["value"] [] (sp_isKnotO K)) (G_read_fraction : Cal P w K mg base CX0 3 "read_fraction" ["word"] [] (sp_readFo K)) (z_tuple : mg "tuple" = none) : FnOk P w K mg base CX0 4 f fd ["word"] (sp_readKo K) := by
  refine F.ok (k := 3) sc_read_knot (fun vs H Q E h => ?_) (fun cdv A outer s H vs Q E hr h => ?_)
  · obtain ⟨M, w, l, rfl, hw, hn, ow, q⟩ := h; rfl
  · obtain ⟨M, w, l, rfl, hw, hn, ow, q⟩ := h
    refine ⟨_, (pss_cons (ps_set (i := 1) sc_read_knot.nd rfl (by first | exact Or.inl rfl | exact Or.inr rfl) (pe_callTy (callTupC K) (by rfl) z_tuple (by decide +kernel) (pa_cons (pe_lc (own := [("part", 2)]) rfl sc_read_knot.nd (piListK K (pe_split (pv 0) pe_str)) (blkOk_by (own := [("part", 2)]) (N := ["word", "knot", "part"]) (sc := defScope s_read_knot) (by decide +kernel)) (fun _ _ _ _ _ => (pg_name (i := 2) sc_read_knot.nd rfl (by first | exact Or.inl rfl | exact Or.inr rfl))) (fun _ _ _ _ _ => pts_nil) (fun _ _ _ _ _ => (pe_cal G_read_fraction (hr.mono (by decide)) (by rfl) pass0 (pa_cons (pv 2) pa_nil)))) pa_nil)))
      (pss_one (ps_ret (pe_ifExp (pt_val (pe_cal G_is_knot (hr.mono (by decide)) (by rfl) pass0 (pa_cons (pv 1) pa_nil))) (pv 1) pe_non)))), ?_⟩
    rw [st_read_knot]
    try simp only [cxK, cxK2]

    obtain rfl : w = .str (SX.S l) := hw
    have pl := SP_len 58 l
    walk_at "my_go"
    refine ⟨_, rfl, ⟨_, rfl⟩, _, SX.S [58], rfl, by rw [tx_colon], rfl, by rw [SX.S_len]; exact Nat.le_trans (show _ ≤ 100000 by omega) (by decide), ?_⟩
    rw [split_SP (by decide)]
    intro p hp
    have s1 : Same H (upd H p (.lst (((SP 58 l).map SX.S).map V.str))) := Same.upd_new hp
    have r1 := rS_txs (K := K) (ys := SP 58 l) ow hp
    generalize upd H p (.lst (((SP 58 l).map SX.S).map V.str)) = H1 at *
    have ow1 := ow.same s1
    walk_at "my_go"
    refine lc_map (A := rTx) (B := rOp rFr) (M := M) (SP 58 l) (fun _ => true) fOf r1.l ow1 (by omega) ?_ ?_
    · rintro i q5 vq M' H5 Z N5 hi5 ht hw2 rq hZ hN
      have b5 := pl.2 _ (List.mem_of_getElem? hi5)
      walk_at "my_go"
      refine c_readFo rq (by omega) hw2 ?_
      intro v6 H6 s6 r6
      exact hZ rfl _ _ s6 r6
    intro D2 vs2 H2 f2 s2 e2 p2 r2
    rw [List.filter_eq_self.mpr (fun _ _ => rfl)] at r2
    have ow2 := ow1.same s2
    walk_at "my_go"
    refine s_tupS r2 ow2 ?_
    intro v3 H3 s3 r3
    have s13 := (s1.trans s2).trans s3
    have hob : rOb K M H3 v3 (.tup (((SP 58 l).map fOf).map opOb)) := by
      obtain ⟨p3, vs3, rfl, t3, q3⟩ := r3
      exact .tup t3 (OAs.of_prd (prd_op q3))
    walk_at "my_go"
    rw [op_isKn]
    cases hk : kOf l with
    | none =>
      walk_at "my_go"
      refine q _ _ s13 ?_
      rw [hk]
      rfl
    | some k =>
      rw [Option.isSome_some]
      walk_at "my_go"
      refine q _ _ s13 ?_
      rw [hk]
      rw [(kOf_some hk).1] at r3
      obtain ⟨p3, x3, y3, e3, t3, a3, b3⟩ := rTp_two r3
      exact ⟨p3, x3, y3, e3, t3, a3, b3⟩
end
abbrev s_read_knots : Stmt := topS 32
theorem sc_read_knots : FnScope ["words", "knots", "word"] ["words"] (defScope s_read_knots) := ⟨rfl, rfl, rfl, by decide +kernel, rfl, by decide +kernel, by decide +kernel⟩
theorem st_read_knots {x0 : V} : L2.start ["words", "knots", "word"] [x0] = [some x0, none, none] := rfl

instance {α : Type} {A : Rp α} [i : Eqd A] : Eqd (rTp A) := ⟨fun as => .tuple (as.map i.d), fun h => by
  obtain ⟨p, vs, rfl, z, r⟩ := h
  exact .tup z.sq (dp_all r), fun as => by rw [PyData.canLay0]; exact lay_all as, i.dep + 1, fun as => by rw [PyData.depth]; exact Nat.succ_le_succ (dep_all as)⟩
theorem prd_some {α : Type} {A : Rp α} {K : Fg} {M : Ms} {H : Hp} : ∀ {vs : List V} {as : List α}, Paired (rOp A K M H) vs (as.map some) → Paired (A K M H) vs as
  | _, [], .nil => .nil
  | _, _ :: _, .cons h t => .cons h (prd_some t)
def sp_readKso (K : Fg) : Sp := fun vs H Q _ => ∃ (M : Ms) (w : V) (ws : List (List Nat)), vs = [w] ∧ rL rTx K M H w ws ∧ ws.length ≤ 88000 ∧ (∀ x ∈ ws, x.length ≤ 88000) ∧ Own M H ∧ ∀ v H', Same H H' → rOp (rTp rKn) K M H' v (ksOf ws) → Q v H'
theorem c_readKso {K : Fg} {M : Ms} {H : Hp} {Q : VK} {E : XK} {w : V} {ws : List (List Nat)} (h : rL rTx K M H w ws) (hn : ws.length ≤ 88000) (hw : ∀ x ∈ ws, x.length ≤ 88000) (ow : Own M H) (q : ∀ v H', Same H H' → rOp (rTp rKn) K M H' v (ksOf ws) → Q v H') : sp_readKso K ([w] ++ []) H Q E := ⟨M, w, ws, rfl, h, hn, hw, ow, q⟩
section
variable {P : Program} {w : World} {K : PySem.W.Frag} {mg : Str → Option Value} {base : Heap}
theorem ok_read_knots {f : Addr} {fd : FuncData} (F : Fun K "read_knots" "read_knots" s_read_knots f fd) (G_read_knot : Cal P w K mg base CX0 4 "read_knot" ["word"] [] (sp_readKo K)) (z_len : mg "len" = none) (z_tuple : mg "tuple" = none) : FnOk P w K mg base CX0 5 f fd ["words"] (sp_readKso K) := by
  refine F.ok (k := 4) sc_read_knots (fun vs H Q E h => ?_) (fun cdv A outer s H vs Q E hr h => ?_)
  · obtain ⟨M, w, ws, rfl, hw, hn, hx, ow, q⟩ := h; rfl
  · obtain ⟨M, w, ws, rfl, hw, hn, hx, ow, q⟩ := h
    refine ⟨_, (pss_cons (ps_set (i := 1) sc_read_knots.nd rfl (by first | exact Or.inl rfl | exact Or.inr rfl) (pe_callTy (callTupC K) (by rfl) z_tuple (by decide +kernel) (pa_cons (pe_lc (own := [("word", 2)]) rfl sc_read_knots.nd (piListK K (pv 0)) (blkOk_by (own := [("word", 2)]) (N := ["words", "knots", "word"]) (sc := defScope s_read_knots) (by decide +kernel)) (fun _ _ _ _ _ => (pg_name (i := 2) sc_read_knots.nd rfl (by first | exact Or.inl rfl | exact Or.inr rfl))) (fun _ _ _ _ _ => pts_nil) (fun _ _ _ _ _ => (pe_cal G_read_knot (hr.mono (by decide)) (by rfl) pass0 (pa_cons (pv 2) pa_nil)))) pa_nil)))
      (pss_one (ps_ret (pe_ifExp (PW.pt (pw_or (pt_cmpR (opEqK K hr.units) (pe_callB (callLenK K) (by rfl) z_len (by decide +kernel) (pa_cons (pv 1) pa_nil)) pe_int (nomark _)) (pw_or1 (pt_cmpR (opInTK K (hu65 hr)) pe_non (pv 1) (by rfl))))) pe_non (pv 1))))), ?_⟩
    rw [st_read_knots]
    try simp only [cxK, cxK2]

    walk_at "my_go"
    refine lc_map (A := rTx) (B := rOp rKn) (M := M) ws (fun _ => true) kOf hw ow (by omega) ?_ ?_
    · rintro i x vq M' H2 Z N hi ht hw2 rq hZ hN
      walk_at "my_go"
      refine c_readKo rq (hx x (List.mem_of_getElem? hi)) hw2 ?_
      intro v3 H3 s3 r3
      exact hZ rfl _ _ s3 r3
    intro D2 vs2 H2 f2 s2 e2 p2 r2
    rw [List.filter_eq_self.mpr (fun _ _ => rfl)] at r2
    have ow2 := ow.same s2
    walk_at "my_go"
    refine s_tupS r2 ow2 ?_
    intro v3 H3 s3 r3
    have s13 := s2.trans s3
    walk_at "my_go"
    refine s_lenQ (A := rOp rKn) (.inr r3) ?_
    walk_at "my_go"
    by_cases h0 : (ws.map kOf).length = 0
    · rw [decide_eq_true (by omega)]
      walk_at "my_go"
      refine q _ _ s13 ?_
      unfold ksOf
      rw [if_pos (.inl (List.eq_nil_of_length_eq_zero (by rw [List.length_map] at h0; exact h0)))]
      rfl
    rw [decide_eq_false (by omega)]
    walk_at "my_go"
    refine ⟨.none, (ws.map kOf).map (inferInstance : Eqd (rOp rKn)).d, .non, (inferInstance : Eqd (rTp (rOp rKn))).dp r3, rfl, shaped_of (R := rTp (rOp rKn)) (by decide) (ws.map kOf), ?_⟩
    rw [any_none (A := rKn) (fun a => eqv_tup _)]
    cases ha : (ws.map kOf).any Option.isNone
    · walk_at "my_go"
      refine q _ _ s13 ?_
      have hno : ¬ none ∈ ws.map kOf := fun z => by
        have : (ws.map kOf).any Option.isNone = true := List.any_eq_true.mpr ⟨none, z, rfl⟩
        rw [ha] at this
        cases this
      have e : ksOf ws = some (ws.filterMap kOf) := by
        unfold ksOf
        rw [if_neg (fun z => z.elim (fun z => h0 (by rw [z]; rfl)) hno)]
      rw [e]
      have em : ws.map kOf = (ws.filterMap kOf).map some := by
        clear q hw hn hx r2 r3 h0 ha e p2
        induction ws with
        | nil => rfl
        | cons x ws ih =>
          rw [List.map_cons, List.filterMap_cons]
          cases hk : kOf x with
          | none => exact absurd (by rw [List.map_cons, hk]; exact .head _) hno
          | some k =>
            rw [ih (fun z => hno (by rw [List.map_cons]; exact .tail _ z))]
            rfl
      rw [em] at r3
      obtain ⟨p3, vs3, rfl, t3, q3⟩ := r3
      exact ⟨p3, vs3, rfl, t3, prd_some q3⟩
    · walk_at "my_go"
      refine q _ _ s13 ?_
      have hin : none ∈ ws.map kOf := by
        obtain ⟨x, hx, hy⟩ := List.any_eq_true.mp ha
        cases x with
        | none => exact hx
        | some _ => cases hy
      unfold ksOf
      rw [if_pos (.inr hin)]
      rfl
end
abbrev s_read_table : Stmt := topS 33
theorem sc_read_table : FnScope ["text", "knots"] ["text"] (defScope s_read_table) := ⟨rfl, rfl, rfl, by decide +kernel, rfl, by decide +kernel, by decide +kernel⟩
theorem st_read_table {x0 : V} : L2.start ["text", "knots"] [x0] = [some x0, none] := rfl

abbrev s_NoTextI : Stmt := inClass (topS 6) 0
theorem c_mkO {C CN : Addr} {K : Fg} {M N : Ms} {H : Hp} {Q' : VK} {E : XK} {v : V} {o : Ob} {j : Nat} (h : rOb K M H v o) (hr : o.fits = true → rQ2 rKn K N H v (o.items.map Ob.kn)) (hb : OBd j o) (hj : j < 2000) (hn : o.items.length < 90000) (owM : Own M H) (ow : Own N H) {x dx : Addr} (hx : H x = none) (hd : H dx = none) (ne : dx ≠ x)
    (q : o.fits = true → ∀ H', Same H H' → rTt C K N H' (.ref x) (o.items.map Ob.kn) → Q' .non H') (qe : o.fits = false → ∀ H', Same H H' → E (.ref CN) none H') : sp_initO C CN K (.ref x :: ([v] ++ [])) (upd (upd H dx (.own x)) x (.ins C dx [])) Q' E := by
  have s1 : Same H (upd (upd H dx (.own x)) x (.ins C dx [])) := fun b o e => by rw [upd_ne (ne_of_none e hx), upd_ne (ne_of_none e hd)]; exact e
  refine ⟨mIn M x, mIn N x, x, dx, v, o, j, rfl, upd_same, .inr rfl, Mono.mono (Tr.inside s1 hx) h, owM.inside s1 upd_same, fun f => ?_, hb, hj, hn, ow.inside s1 upd_same, fun f lk lp H' kp e a b => ?_, fun f H' s => qe f H' (s1.trans s)⟩
  · obtain ⟨p, vs, e, l, r⟩ := hr f
    exact ⟨p, vs, e, l.imp (fun z => z.mono (Ext.of_same s1).tr) (fun z => z.mono (Ext.of_same s1).tr), Prd.monoR (fun _ _ z => Mono.mono (Tr.inside s1 hx) z) r⟩
  · exact q f H' (fun b o z => kp b o (s1 b o z) (ne_of_none z hx)) ⟨x, dx, lk, lp, rfl, ow.fresh hx, e, Mono.mono Tr.outside a, Mono.mono Tr.outside b⟩
theorem fits_rise {ks : List Kn} (h0 : ks ≠ []) : (Ob.tup (ks.map knOb)).fits = true ↔ Rise (ks.map (·.1)) ∧ ks.length < 41 := by
  have em : (ks.map knOb).map Ob.kn = ks := map_knOb ks
  have asc : Asc ks ↔ Rise (ks.map (·.1)) := by
    unfold Rise
    rw [List.pairwise_map]
    exact Iff.rfl
  constructor
  · intro h
    obtain ⟨_, _, h2, _, h4⟩ := fits_inv h
    have h4 : Asc ((ks.map knOb).map Ob.kn) := h4
    have h2 : (ks.map knOb).length ≤ 40 := h2
    rw [em] at h4
    rw [List.length_map] at h2
    exact ⟨asc.mp h4, by omega⟩
  · rintro ⟨h1, h2⟩
    have l0 : 0 < ks.length := List.length_pos_iff.mpr h0
    unfold Ob.fits Ob.areK
    show (true && !decide ((ks.map knOb).length = 0) && (ks.map knOb).all Ob.isKn && ascL ((ks.map knOb).map Ob.kn) && decide ((ks.map knOb).length ≤ 40)) = true
    rw [List.length_map, decide_eq_false (by omega), all_knOb, em, asc_iff.mpr (asc.mpr h1), decide_eq_true (by omega)]
    rfl
def txT0 : List Nat := [116, 101, 120, 116, 48]
def txTab : List Nat := [116, 97, 98, 108, 101]
theorem ksOf_ne {ws : List (List Nat)} {ks : List Kn} (h : ksOf ws = some ks) : ks ≠ [] := by
  unfold ksOf at h
  split at h
  · cases h
  · rename_i z
    cases h
    intro e
    have hm : ∀ x ∈ ws, kOf x = none := fun x hx => by
      cases hk : kOf x with
      | none => rfl
      | some k =>
        have : k ∈ ws.filterMap kOf := List.mem_filterMap.mpr ⟨x, hx, hk⟩
        rw [e] at this
        cases this
    cases ws with
    | nil => exact z (.inl rfl)
    | cons x ws => exact z (.inr (List.mem_map.mpr ⟨x, .head _, hm x (.head _)⟩))
def sp_readTo (C CB CT : Addr) (K : Fg) : Sp := fun vs H Q E => ∃ (M : Ms) (w : V), vs = [w] ∧ Own M H ∧
  ((∃ l, rTx K M H w l ∧ l.length ≤ 85000 ∧ (∀ ks, dueOf l = .inl ks → ∀ v H', Same H H' → rTt C K M H' v ks → Q v H') ∧ (dueOf l = .inr txT0 → ∀ dx H', Same H H' → H' dx = some (.xd [("row", .int 0)]) → E (.ref CT) (some dx) H') ∧ (dueOf l = .inr txTab → ∀ H', Same H H' → E (.ref CB) none H')) ∨
    (∃ o, rOb K M H w o ∧ kitB o.ty "str" = some false ∧ ∀ dx H', Same H H' → H' dx = some (.xd [("row", .int 0)]) → E (.ref CT) (some dx) H'))
section
variable {P : Program} {w : World} {K : PySem.W.Frag} {mg : Str → Option Value} {base : Heap}
theorem ok_read_table {C C_NoTable C_NoText C_NoText_init : Addr} {f : Addr} {fd : FuncData} (F : Fun K "read_table" "read_table" s_read_table f fd) (TC : TtC K mg C) (G_Timetable_init : CalI P w K mg base (L2.CX P w) 5 C ["self", "knots"] (sp_initO C C_NoTable K)) (G_read_knots : Cal P w K mg base CX0 5 "read_knots" ["words"] [] (sp_readKso K)) (z_isinstance : mg "isinstance" = none) (z_str : mg "str" = none) (N_NoText : NtC P w K mg base "NoText" C_NoText C_NoText_init) : FnOk P w K mg base (L2.CX P w) 7 f fd ["text"] (sp_readTo C C_NoTable C_NoText K) := by
  refine F.okX (k := 6) sc_read_table (fun vs H Q E h => ?_) (fun cdv A outer s H vs Q E hr h => ?_)
  · obtain ⟨M, w, rfl, ow, h⟩ := h; rfl
  · obtain ⟨M, w, rfl, ow, h⟩ := h
    refine ⟨_, (pss_cons (ps_set (i := 1) sc_read_table.nd rfl (by first | exact Or.inl rfl | exact Or.inr rfl) (pe_ifExp (pt_val (pe_callB (callIsiK K) (by rfl) z_isinstance (by decide +kernel) (pa_cons (pv 0) (pa_cons (pe_bltn (v := .ty "str") (by rfl) z_str (by decide +kernel) rfl) pa_nil)))) (pe_cal G_read_knots (hr.mono (by decide)) (by rfl) pass0 (pa_cons (pe_split (pv 0) pe_str) pa_nil)) pe_non))
      (pss_cons (ps_if (pt_cmpR opIsN (pv 1) pe_non (nomark _)) (pss_one (ps_raiseNt N_NoText (hr.mono (by decide)) (by rfl))) pss_nil)
      (pss_one (ps_ret (pe_calI G_Timetable_init (hr.mono (by decide)) (by rfl) TC.mgC passThru (pa_cons (pv 1) pa_nil)))))), ?_⟩
    rw [st_read_table]
    try simp only [cxK, cxK2]

    rcases h with ⟨l, hw, hn, hq, ht, hb⟩ | ⟨o, ho, kt, ht⟩
    · obtain rfl : w = .str (SX.S l) := hw
      have pl := SP_len 32 l
      walk_at "my_go"
      refine s_isi (.base (.str _)) (show kitB "str" "str" = some true by decide +kernel) ?_
      walk_at "my_go"
      refine ⟨_, rfl, ⟨_, rfl⟩, _, SX.S [32], rfl, by rw [tx_blank], rfl, by rw [SX.S_len]; exact Nat.le_trans (show _ ≤ 100000 by omega) (by decide), ?_⟩
      rw [split_SP (by decide)]
      intro p hp
      have s1 : Same H (upd H p (.lst (((SP 32 l).map SX.S).map V.str))) := Same.upd_new hp
      have r1 := rS_txs (K := K) (ys := SP 32 l) ow hp
      generalize upd H p (.lst (((SP 32 l).map SX.S).map V.str)) = H1 at *
      have ow1 := ow.same s1
      walk_at "my_go"
      refine c_readKso r1.l (by omega) (fun x hx => by have := (pl.2 x hx).1; omega) ow1 ?_
      intro v2 H2 s2 r2
      have s12 := s1.trans s2
      have ow2 := ow1.same s2
      unfold dueOf at hq ht hb
      cases hk : ksOf (SP 32 l) with
      | none =>
        rw [hk] at r2 hq ht hb
        obtain rfl : v2 = .non := r2
        walk_at "my_go"
        exact fun dx H' s e => ht rfl dx H' (s12.trans s) e
      | some ks =>
        rw [hk] at r2 hq ht hb
        have r2 : rTp rKn K M H2 v2 ks := r2
        obtain ⟨kl, kd⟩ := ksOf_d60 hk
        have fr := fits_rise (ksOf_ne hk)
        dsimp only at hq ht hb
        obtain ⟨pv, vvs, rfl, t2, pr2⟩ := id r2
        walk_at "my_go"
        intro x dx hx hd ne
        have hob : rOb K M H2 (.ref pv) (.tup (ks.map knOb)) := .tup t2 (OAs.of_prd (prd_ob pr2))
        have bd : ∀ z ∈ ks.map knOb, OBd 200 z := fun z hz => by
          obtain ⟨k, hk, rfl⟩ := List.mem_map.mp hz
          exact knOb_bd (d60_bq (kd k hk).1) (d60_bq (kd k hk).2)
        have em : ((Ob.tup (ks.map knOb)).items.map Ob.kn) = ks := map_knOb ks
        refine c_mkO (j := 200) (M := M) (N := M) hob (fun _ => by rw [em]; exact rQ.two (.inr r2)) (.tup bd) (by omega) (show (ks.map knOb).length < 90000 by rw [List.length_map]; omega) ow2 ow2 hx hd ne ?_ ?_
        · intro f H' s r
          rw [em] at r
          refine ⟨rfl, hq ks ?_ _ _ (s12.trans s) r⟩
          rw [if_pos (fr.mp f)]
        · intro f H' s
          refine hb ?_ _ (s12.trans s)
          rw [if_neg (fun z => by rw [fr.mpr z] at f; cases f)]
          rfl
    · walk_at "my_go"
      refine s_isiO ho kt ?_
      walk_at "my_go"
      exact ht
end
abbrev s__law_said : Stmt := topS 50
theorem sc__law_said : FnScope ["text", "caught", "found", "e"] ["text"] (defScope s__law_said) := ⟨rfl, rfl, rfl, by decide +kernel, rfl, by decide +kernel, by decide +kernel⟩
theorem st__law_said {x0 : V} : L2.start ["text", "caught", "found", "e"] [x0] = [some x0, none, none, none] := rfl

def sp_said (C : Addr) (K : Fg) : Sp := fun vs H Q _ => ∃ (M : Ms) (w : V), vs = [w] ∧ Own M H ∧
  ((∃ l, rTx K M H w l ∧ l.length ≤ 85000 ∧ (∀ v H', Same H H' → rSum rKs rTx K M H' v (dueOf l) → Q v H')) ∨
    (∃ o, rOb K M H w o ∧ kitB o.ty "str" = some false ∧ ∀ H', Same H H' → Q (.str (SX.S txT0)) H'))
theorem dueOf_or (l : List Nat) : (∃ ks, dueOf l = .inl ks) ∨ dueOf l = .inr txT0 ∨ dueOf l = .inr txTab := by
  unfold dueOf
  split
  · exact .inr (.inl rfl)
  · split
    · exact .inl ⟨_, rfl⟩
    · exact .inr (.inr rfl)
theorem tx_tn : Str.ofString "text" ++ Str.ofString (toString (0 : Int)) = SX.S txT0 := by decide +kernel
theorem s_rep0 {H : Hp} {Q : VK} (q : Q (.str (Str.ofString (toString (0 : Int)))) H) : rRepI [V.int 0] H Q := ⟨0, rfl, by decide, q⟩
section
variable {P : Program} {w : World} {K : PySem.W.Frag} {mg : Str → Option Value} {base : Heap}
theorem ok__law_said {C C_NoTable C_NoText C_NoText_init C_TrackError : Addr} {f : Addr} {fd : FuncData} (F : Fun K "_law_said" "_law_said" s__law_said f fd) (TC : TtC K mg C) (x_NoTable : ExC K mg "NoTable" C_NoTable) (G_Timetable_knots : CalM P w K mg base CX0 1 C "knots" ["self"] (sp_knots C K)) (G_read_table : Cal P w K mg base (L2.CX P w) 7 "read_table" ["text"] [] (sp_readTo C C_NoTable C_NoText K)) (z_isinstance : mg "isinstance" = none) (z_repr : mg "repr" = none) (m_TrackError : mg "TrackError" = some (.ref C_TrackError)) (N_NoText : NtC P w K mg base "NoText" C_NoText C_NoText_init) (eC_NoTable : ExcC K C_NoTable) (sB : PySem.W.exmOne K (.ref C_NoTable) (.ref C_TrackError) = some true) (sT : PySem.W.exmOne K (.ref C_NoText) (.ref C_TrackError) = some true) (kBT : PySem.W.kitOne K (.ref C_NoTable) (.ref C_NoText) = some false) (kBB : PySem.W.kitOne K (.ref C_NoTable) (.ref C_NoTable) = some true) (kTT : PySem.W.kitOne K (.ref C_NoText) (.ref C_NoText) = some true) (kTB : PySem.W.kitOne K (.ref C_NoText) (.ref C_NoTable) = some false) : FnOk P w K mg base CX0 8 f fd ["text"] (sp_said C K) := by
  refine F.ok (k := 7) sc__law_said (fun vs H Q E h => ?_) (fun cdv A outer s H vs Q E hr h => ?_)
  · obtain ⟨M, w, rfl, ow, h⟩ := h; rfl
  · obtain ⟨M, w, rfl, ow, h⟩ := h
    refine ⟨_, (pss_cons (ps_asg (pe_tup (pa_cons pe_non (pa_cons pe_non pa_nil))) (pgTupK (n := 2) K rfl (pgs_cons (pg_name (i := 1) sc__law_said.nd rfl (by first | exact Or.inl rfl | exact Or.inr rfl)) (pgs_cons (pg_name (i := 2) sc__law_said.nd rfl (by first | exact Or.inl rfl | exact Or.inr rfl)) pgs_nil))))
      (pss_keepE (i := 3) (m := 4) (c := .ref C_TrackError) rfl rfl sc__law_said.nd rfl rfl rfl ⟨by rfl, by decide, .inl m_TrackError⟩ (fun W pn xe E tk hW => (ps_set (i := 2) sc__law_said.nd rfl (by first | exact Or.inl rfl | exact Or.inr rfl) (pe_cal G_read_table (hr.mono (by decide)) (by rfl) (passes_call tk hW) (pa_cons (pv 0) pa_nil))))
      (fun a oe cls d pn _ _ => pss_one (ps_set (i := 1) sc__law_said.nd rfl (by first | exact Or.inl rfl | exact Or.inr rfl) (pv 3)))
      (pss_cons (ps_if (pt_cmpR opIsN (pv 1) pe_non (nomark _)) (pss_one (ps_ret (pe_calm0 (pv 2) TC.cl G_Timetable_knots (hr.mono (by decide)) pass0))) pss_nil) pss_void)
      (fun a oe cls d pn hz hf => pss_or (pss_zc (C := C_NoTable) fun e1 e2 => (pss_cons (ps_if (pt_cmpR opIsN (pv 1) pe_non (nomark _)) (pss_one ps_never) pss_nil)
      (pss_cons (ps_if (pt_val (pe_callB (call_isP (K := K) (a := a) rfl eC_NoTable List.mem_cons_self (zc_of hz e1 e2) hf) (by rfl) z_isinstance (by decide +kernel) (pa_cons (pv 1) (pa_cons (pe_glob (v := .ref C_NoText) (by rfl) N_NoText.gP rfl) pa_nil)))) (pss_one ps_never) pss_nil)
      (pss_one (ps_ret (pe_ifExp (pt_val (pe_callB (call_isP (K := K) (a := a) rfl eC_NoTable List.mem_cons_self (zc_of hz e1 e2) hf) (by rfl) z_isinstance (by decide +kernel) (pa_cons (pv 1) (pa_cons (pe_glob (v := .ref C_NoTable) (by rfl) x_NoTable.gP rfl) pa_nil)))) pe_str pe_str))))))
      (pss_zd (C := C_NoText) fun dd e1 e2 => (pss_cons (ps_if (pt_cmpR opIsN (pv 1) pe_non (nomark _)) (pss_one ps_never) pss_nil)
      (pss_cons (ps_if (pt_val (pe_callB (call_isPD (K := K) (a := a) (dd := dd) rfl N_NoText.cE List.mem_cons_self (zd_of hz e1 e2) hf) (by rfl) z_isinstance (by decide +kernel) (pa_cons (pv 1) (pa_cons (pe_glob (v := .ref C_NoText) (by rfl) N_NoText.gP rfl) pa_nil)))) (pss_one (ps_ret (pe_ifExp (pt_not (pt_val (pe_callB (call_isPD (K := K) (a := a) (dd := dd) rfl N_NoText.cE List.mem_cons_self (zd_of hz e1 e2) hf) (by rfl) z_isinstance (by decide +kernel) (pa_cons (pv 1) (pa_cons (pe_glob (v := .ref C_NoTable) (by rfl) x_NoTable.gP rfl) pa_nil))))) (pe_op (opAddTK K) pe_str (pe_callB callRepI (by rfl) z_repr (by decide +kernel) (pa_cons (pe_xfP rfl N_NoText.cE N_NoText.no List.mem_cons_self (zd_of hz e1 e2) hf (pv 1)) pa_nil))) pe_str))) pss_nil)
      (pss_one ps_never))))))), ?_⟩
    rw [st__law_said]
    try simp only [cxK, cxK2]

    walk_at "my_go"
    refine s_newU (by decide) ?_
    intro p1 H1 s1 e1
    have ow1 := ow.same s1
    refine s_gtup (.of e1) rfl ?_
    walk_at "my_go"
    unfold tKeep
    walk_at "my_go"
    refine ⟨M, w, rfl, ow1, ?_⟩
    rcases h with ⟨l, hw, hn, hq⟩ | ⟨o, ho, kt, hq⟩
    · refine .inl ⟨l, hw, hn, ?_, ?_, ?_⟩
      · intro ks ek v H' s r
        have s2 := s1.trans s
        have ow2 := ow1.same s
        walk_at "my_go"
        rename_i y H3 s3 r3
        refine hq _ _ (s2.trans s3) ?_
        rw [ek]
        exact r3
      · intro ek dx H' s e σ' hl
        refine ⟨sT, fun a ha => ?_⟩
        match σ', hl with
        | [u0, u1, u2, u3], _ =>
          refine ⟨_, rfl, ?_⟩
          refine .inr ⟨dx, rfl, rfl, ?_⟩
          walk_at "my_go"
          refine ⟨_, _, _, rfl, e, ⟨_, fun _ r => r, kTT⟩, ?_⟩
          walk_at "my_go"
          refine ⟨_, _, _, rfl, e, ⟨_, fun _ r => r, kTB⟩, ?_⟩
          walk_at "my_go"
          refine ⟨_, rfl, rfl, _, _, e, rfl, ?_⟩
          walk_at "my_go"
          refine s_rep0 ?_
          refine .inr ⟨_, _, rfl, rfl, by decide +kernel, ?_⟩
          rw [tx_tn]
          refine hq _ _ (s1.trans s) ?_
          rw [ek]
          rfl
      · intro ek H' s σ' hl
        refine ⟨sB, fun a ha => ?_⟩
        match σ', hl with
        | [u0, u1, u2, u3], _ =>
          refine ⟨_, rfl, ?_⟩
          refine .inl ⟨rfl, rfl, ?_⟩
          walk_at "my_go"
          refine ⟨_, _, rfl, .inl ⟨_, fun _ r => r, kBT⟩, ?_⟩
          walk_at "my_go"
          refine ⟨_, _, rfl, .inl ⟨_, fun _ r => r, kBB⟩, ?_⟩
          walk_at "my_go"
          refine hq _ _ (s1.trans s) ?_
          rw [ek]
          exact congrArg V.str tx_table
    · refine .inr ⟨o, Rp.same (R := rOb) s1 ho, kt, ?_⟩
      · intro dx H' s e σ' hl
        refine ⟨sT, fun a ha => ?_⟩
        match σ', hl with
        | [u0, u1, u2, u3], _ =>
          refine ⟨_, rfl, ?_⟩
          refine .inr ⟨dx, rfl, rfl, ?_⟩
          walk_at "my_go"
          refine ⟨_, _, _, rfl, e, ⟨_, fun _ r => r, kTT⟩, ?_⟩
          walk_at "my_go"
          refine ⟨_, _, _, rfl, e, ⟨_, fun _ r => r, kTB⟩, ?_⟩
          walk_at "my_go"
          refine ⟨_, rfl, rfl, _, _, e, rfl, ?_⟩
          walk_at "my_go"
          refine s_rep0 ?_
          refine .inr ⟨_, _, rfl, rfl, by decide +kernel, ?_⟩
          rw [tx_tn]
          exact hq _ (s1.trans s)
end
abbrev s__law_pick : Stmt := topS 38
theorem sc__law_pick : FnScope ["state", "items"] ["state", "items"] (defScope s__law_pick) := ⟨rfl, rfl, rfl, by decide +kernel, rfl, by decide +kernel, by decide +kernel⟩
theorem st__law_pick {x0 x1 : V} : L2.start ["state", "items"] [x0, x1] = [some x0, some x1] := rfl

def sp_pickS (K : Fg) : Sp := fun vs H Q _ => ∃ (α : Type) (A : Rp α) (_ : Mono A) (M : Ms) (d : Addr) (l : LI) (N : Nat) (x : V) (as : List α), vs = [.ref d, x] ∧ StAt H d l N ∧ M d ∧ M l.1 ∧ rL A K M H x as ∧ 0 < as.length ∧ as.length < 1000000 ∧ N < 999999990 ∧
  ∀ (y : V) (a : α) H', But d l.1 H H' → StAt H' d l (N + 1) → a ∈ as → A K M H' y a → Q y H'
theorem c_pickS {α : Type} {A : Rp α} [i : Mono A] {K : Fg} {M : Ms} {H : Hp} {Q : VK} {E : XK} {d : Addr} {l : LI} {N : Nat} {x : V} {as : List α} (hd : StAt H d l N) (md : M d) (ml : M l.1) (hx : rL A K M H x as) (h0 : 0 < as.length) (h1 : as.length < 1000000) (hN : N < 999999990)
    (h : ∀ (y : V) (a : α) H', But d l.1 H H' → StAt H' d l (N + 1) → a ∈ as → A K M H' y a → Q y H') : sp_pickS K ([.ref d, x] ++ []) H Q E := ⟨α, A, i, M, d, l, N, x, as, rfl, hd, md, ml, hx, h0, h1, hN, h⟩
section
variable {P : Program} {w : World} {K : PySem.W.Frag} {mg : Str → Option Value} {base : Heap}
theorem ok__law_pick {f : Addr} {fd : FuncData} (F : Fun K "_law_pick" "_law_pick" s__law_pick f fd) (G__law_draw : Cal P w K mg base CX0 2 "_law_draw" ["state", "size"] [] (sp_takeS K)) (z_len : mg "len" = none) : FnOk P w K mg base CX0 3 f fd ["state", "items"] (sp_pickS K) := by
  refine F.ok (k := 2) sc__law_pick (fun vs H Q E h => ?_) (fun cdv A outer s H vs Q E hr h => ?_)
  · obtain ⟨α, A, mo, M, d, l, N, x, as, rfl, D0, md, ml, hx, h0, h1, hN, q⟩ := h; rfl
  · obtain ⟨α, A, mo, M, d, l, N, x, as, rfl, D0, md, ml, hx, h0, h1, hN, q⟩ := h
    refine ⟨_, (pss_one (ps_ret (pe_ix (ixSeq K) (pv 1) (pe_cal G__law_draw (hr.mono (by decide)) (by rfl) pass0 (pa_cons (pv 0) (pa_cons (pe_callB (callLenK K) (by rfl) z_len (by decide +kernel) (pa_cons (pv 1) pa_nil)) pa_nil))) (fun _ _ => rfl)))), ?_⟩
    rw [st__law_pick]
    try simp only [cxK, cxK2]

    walk_at "my_go"
    rename_i r H1 b1 D1 r0 r1
    refine s_ixL (Rp.but b1 md ml hx) (List.getElem?_eq_getElem (by omega : r.toNat < as.length)) (ixN_pos r0 r1) ?_
    intro y hy
    exact q _ _ _ b1 D1 (List.getElem_mem _) hy
end
abbrev s__law_spoilt_text : Stmt := topS 49
theorem sc__law_spoilt_text : FnScope ["state", "text", "at", "way", "sign", "to"] ["state", "text"] (defScope s__law_spoilt_text) := ⟨rfl, rfl, rfl, by decide +kernel, rfl, by decide +kernel, by decide +kernel⟩
theorem st__law_spoilt_text {x0 x1 : V} : L2.start ["state", "text", "at", "way", "sign", "to"] [x0, x1] = [some x0, some x1, none, none, none, none] := rfl

theorem tx_signs : Str.ofString "0123456789-/:, abz.+A" = SX.S [48, 49, 50, 51, 52, 53, 54, 55, 56, 57, 45, 47, 58, 44, 32, 97, 98, 122, 46, 43, 65] := by decide +kernel
theorem tx_nl : Str.ofString "\n" = SX.S [10] := by decide +kernel
theorem s_addJ {K : Fg} {i j : Int} {H : Hp} {Q : VK} (q : Q (.int (i + j)) H) : rAddT K (.int i) (.int j) H Q := .inl (.inl ⟨_, _, rfl, rfl, q⟩)
theorem prd_ones {K : Fg} {M : Ms} {H : Hp} : ∀ cs : List Nat, Paired (rTx K M H) (cs.map fun c => V.str ⟨#[c]⟩) (cs.map fun c => [c])
  | [] => .nil
  | _ :: cs => .cons rfl (prd_ones cs)
theorem s_slTo {t : List Nat} {i : Int} {H : Hp} {Q : VK} (lb : (SX.S t).length ≤ sizeLine) (h : 0 ≤ i) (q : Q (.str (SX.S (t.take i.toNat))) H) : C8.rSlX (.str (SX.S t)) none (some i) H Q := ⟨_, rfl, lb, by rw [SX.slice_to h]; exact q⟩
theorem s_slFrom {t : List Nat} {i : Int} {H : Hp} {Q : VK} (lb : (SX.S t).length ≤ sizeLine) (h : 0 ≤ i) (q : Q (.str (SX.S (t.drop i.toNat))) H) : C8.rSlX (.str (SX.S t)) (some i) none H Q := ⟨_, rfl, lb, by rw [SX.slice_from h]; exact q⟩
def sp_spoil (K : Fg) : Sp := fun vs H Q _ => ∃ (M : Ms) (d : Addr) (l : LI) (N : Nat) (w : V) (t : List Nat), vs = [.ref d, w] ∧ StAt H d l N ∧ M d ∧ M l.1 ∧ Own M H ∧ N < 900000000 ∧ rTx K M H w t ∧ t.length ≤ 45000 ∧ Low t ∧ ∀ w' t' H', But d l.1 H H' → StAt H' d l (N + 4) → rTx K M H' w' t' → t'.length ≤ 2 * t.length + 1 → Low t' → Q w' H'
theorem c_spoil {K : Fg} {M : Ms} {H : Hp} {Q : VK} {E : XK} {d : Addr} {l : LI} {N : Nat} {w : V} {t : List Nat} (hd : StAt H d l N) (md : M d) (ml : M l.1) (ow : Own M H) (hN : N < 900000000) (ht : rTx K M H w t) (hl : t.length ≤ 45000) (lw : Low t)
    (h : ∀ w' t' H', But d l.1 H H' → StAt H' d l (N + 4) → rTx K M H' w' t' → t'.length ≤ 2 * t.length + 1 → Low t' → Q w' H') : sp_spoil K ([.ref d, w] ++ []) H Q E := ⟨M, d, l, N, w, t, rfl, hd, md, ml, ow, hN, ht, hl, lw, h⟩
theorem low_app {a b : List Nat} (ha : Low a) (hb : Low b) : Low (a ++ b) := fun c hc => (List.mem_append.mp hc).elim (ha c) (hb c)
theorem low_take {a : List Nat} {n : Nat} (ha : Low a) : Low (a.take n) := fun c hc => ha c (List.mem_of_mem_take hc)
theorem low_drop {a : List Nat} {n : Nat} (ha : Low a) : Low (a.drop n) := fun c hc => ha c (List.mem_of_mem_drop hc)
section
variable {P : Program} {w : World} {K : PySem.W.Frag} {mg : Str → Option Value} {base : Heap}
theorem ok__law_spoilt_text {f : Addr} {fd : FuncData} (F : Fun K "_law_spoilt_text" "_law_spoilt_text" s__law_spoilt_text f fd) (G__law_draw : Cal P w K mg base CX0 2 "_law_draw" ["state", "size"] [] (sp_takeS K)) (G__law_pick : Cal P w K mg base CX0 3 "_law_pick" ["state", "items"] [] (sp_pickS K)) (z_len : mg "len" = none) (z_list : mg "list" = none) (z_max : mg "max" = none) (z_min : mg "min" = none) : FnOk P w K mg base CX0 4 f fd ["state", "text"] (sp_spoil K) := by
  refine F.ok (k := 3) sc__law_spoilt_text (fun vs H Q E h => ?_) (fun cdv A outer s H vs Q E hr h => ?_)
  · obtain ⟨M, d, l, N, w, t, rfl, D0, md, ml, ow, hN, ht, hl, lw, q⟩ := h; rfl
  · obtain ⟨M, d, l, N, w, t, rfl, D0, md, ml, ow, hN, ht, hl, lw, q⟩ := h
    refine ⟨_, (pss_cons (ps_par (i := 2) (j := 3) rfl sc__law_spoilt_text.nd rfl rfl (by decide) rfl rfl (pa_cons (pe_cal G__law_draw (hr.mono (by decide)) (by rfl) pass0 (pa_cons (pv 0) (pa_cons (pe_op (opAddTK K) (pe_callB call_len_str (by rfl) z_len (by decide +kernel) (pa_cons (pv 1) pa_nil)) pe_int) pa_nil))) (pa_cons (pe_cal G__law_draw (hr.mono (by decide)) (by rfl) pass0 (pa_cons (pv 0) (pa_cons pe_int pa_nil))) pa_nil)) (by rfl))
      (pss_cons (ps_par (i := 4) (j := 5) rfl sc__law_spoilt_text.nd rfl rfl (by decide) rfl rfl (pa_cons (pe_cal G__law_pick (hr.mono (by decide)) (by rfl) pass0 (pa_cons (pv 0) (pa_cons (pe_op (opAddTK K) (pe_callTy (callListTx rfl) (by rfl) z_list (by decide +kernel) (pa_cons pe_str pa_nil)) (pe_lst (pa_cons pe_str pa_nil))) pa_nil))) (pa_cons (pe_cal G__law_draw (hr.mono (by decide)) (by rfl) pass0 (pa_cons (pv 0) (pa_cons (pe_op (opAddTK K) (pe_callB call_len_str (by rfl) z_len (by decide +kernel) (pa_cons (pv 1) pa_nil)) pe_int) pa_nil))) pa_nil)) (by rfl))
      (pss_cons (ps_if (pt_cmpR op_lt (pv 3) pe_int (nomark _)) (pss_one (ps_ret (pe_op (opAddTK K) (pe_op (opAddTK K) (pe_slice C8.sl_txt (pv 1) po_none (po_some (pv 2))) (pv 4)) (pe_slice C8.sl_txt (pv 1) (po_some (pe_op (opAddTK K) (pv 2) pe_int)) po_none)))) pss_nil)
      (pss_cons (ps_if (pt_cmpR op_lt (pv 3) pe_int (nomark _)) (pss_one (ps_ret (pe_op (opAddTK K) (pe_op (opAddTK K) (pe_slice C8.sl_txt (pv 1) po_none (po_some (pv 2))) (pv 4)) (pe_slice C8.sl_txt (pv 1) (po_some (pv 2)) po_none)))) pss_nil)
      (pss_cons (ps_if (pt_cmpR (opEqK K hr.units) (pv 3) pe_int (nomark _)) (pss_one (ps_ret (pe_op (opAddTK K) (pe_slice C8.sl_txt (pv 1) po_none (po_some (pv 2))) (pe_slice C8.sl_txt (pv 1) (po_some (pe_op (opAddTK K) (pv 2) pe_int)) po_none)))) pss_nil)
      (pss_one (ps_ret (pe_op (opAddTK K) (pe_slice C8.sl_txt (pv 1) po_none (po_some (pe_callB (callMax rfl) (by rfl) z_max (by decide +kernel) (pa_cons (pv 2) (pa_cons (pv 5) pa_nil))))) (pe_slice C8.sl_txt (pv 1) (po_some (pe_callB (callMin rfl) (by rfl) z_min (by decide +kernel) (pa_cons (pv 2) (pa_cons (pv 5) pa_nil)))) po_none))))))))), ?_⟩
    rw [st__law_spoilt_text]
    try simp only [cxK, cxK2]

    obtain rfl : w = .str (SX.S t) := ht
    have big : ∀ {n : Nat}, n ≤ 100000 → n ≤ sizeLine := fun h => Nat.le_trans h (by decide)
    walk_at "my_go"
    have lb : (SX.S t).length ≤ sizeLine := by rw [SX.S_len]; exact big (by omega)
    refine ⟨_, rfl, lb, ?_⟩
    rw [SX.S_len]
    walk_at "my_go"
    refine s_addJ ?_
    walk_at "my_go"
    rename_i at1 H1 b1 D1 at0 at2 way H2 b2 D2 way0 way6
    refine ⟨[48, 49, 50, 51, 52, 53, 54, 55, 56, 57, 45, 47, 58, 44, 32, 97, 98, 122, 46, 43, 65], ?_, by decide, ?_⟩
    · rw [tx_signs]
    intro p3 hp3
    have ow2 : Own M H2 := Own.but (b1.trans b2) ow
    have s3 : Same H2 (upd H2 p3 (.lst (([48, 49, 50, 51, 52, 53, 54, 55, 56, 57, 45, 47, 58, 44, 32, 97, 98, 122, 46, 43, 65] : List Nat).map fun c => V.str ⟨#[c]⟩))) := Same.upd_new hp3
    have r3 : rS rTx K M (upd H2 p3 (.lst (([48, 49, 50, 51, 52, 53, 54, 55, 56, 57, 45, 47, 58, 44, 32, 97, 98, 122, 46, 43, 65] : List Nat).map fun c => V.str ⟨#[c]⟩))) (.ref p3) (([48, 49, 50, 51, 52, 53, 54, 55, 56, 57, 45, 47, 58, 44, 32, 97, 98, 122, 46, 43, 65] : List Nat).map fun c => [c]) := ⟨p3, _, rfl, ow2.fresh hp3, upd_same, prd_ones _⟩
    have hcs : ∀ u ∈ ([48, 49, 50, 51, 52, 53, 54, 55, 56, 57, 45, 47, 58, 44, 32, 97, 98, 122, 46, 43, 65] : List Nat).map fun c => [c], u.length ≤ 1 ∧ Low u := fun u hu => by
      obtain ⟨c, hc, rfl⟩ := List.mem_map.mp hu
      refine ⟨Nat.le_refl _, fun x hx => ?_⟩
      rw [List.mem_singleton.mp hx]
      have : ∀ c ∈ ([48, 49, 50, 51, 52, 53, 54, 55, 56, 57, 45, 47, 58, 44, 32, 97, 98, 122, 46, 43, 65] : List Nat), c < 256 := by decide
      exact this c hc
    have hlen : (([48, 49, 50, 51, 52, 53, 54, 55, 56, 57, 45, 47, 58, 44, 32, 97, 98, 122, 46, 43, 65] : List Nat).map fun c => [c]).length = 21 := rfl
    generalize (([48, 49, 50, 51, 52, 53, 54, 55, 56, 57, 45, 47, 58, 44, 32, 97, 98, 122, 46, 43, 65] : List Nat).map fun c => [c]) = cs at *
    generalize upd H2 p3 (.lst (([48, 49, 50, 51, 52, 53, 54, 55, 56, 57, 45, 47, 58, 44, 32, 97, 98, 122, 46, 43, 65] : List Nat).map fun c => V.str ⟨#[c]⟩)) = H3 at *
    have ow3 := ow2.same s3
    walk_at "my_go"
    refine s_newS (A := rTx) (K := K) (M := M) (as := [[10]]) ow3 (len_ok (by simp)) (.cons (congrArg V.str tx_nl) .nil) ?_
    intro v4 H4 s4 r4
    walk_at "my_go"
    refine .inl (s_catS (Rp.same s4 r3) r4 (ow3.same s4) (by rw [hlen]; decide) ?_)
    intro v5 H5 s5 r5
    walk_at "my_go"
    have b05 : But d l.1 H H5 := (((b1.trans b2).same s3).same s4).same s5
    refine c_pickS (((D2.same s3).same s4).same s5) md ml r5.l (by rw [List.length_append, hlen]; decide) (by rw [List.length_append, hlen]; decide) (by omega) ?_
    rintro y6 sg6 H6 b6 D6 hm6 rfl
    have hs6 : sg6.length ≤ 1 ∧ Low sg6 := by
      rcases List.mem_append.mp hm6 with h | h
      · exact hcs _ h
      · rw [List.mem_singleton.mp h]
        exact ⟨Nat.le_refl _, fun x hx => by rw [List.mem_singleton.mp hx]; decide⟩
    have b06 := b05.trans b6
    walk_at "my_go"
    refine ⟨_, rfl, lb, ?_⟩
    rw [SX.S_len]
    walk_at "my_go"
    refine s_addJ ?_
    walk_at "my_go"
    rename_i to7 H7 b7 D7 to0 to2
    have b07 := b06.trans b7
    have fin : ∀ u : List Nat, u.length ≤ 2 * t.length + 1 → Low u → Q (.str (SX.S u)) H7 := fun u hu lu => q _ u _ b07 (D7.le (by omega)) rfl hu lu
    have lt1 : (t.take at1.toNat).length ≤ t.length := by rw [List.length_take]; omega
    have ld0 : (t.take at1.toNat).length + (t.drop at1.toNat).length = t.length := by rw [List.length_take, List.length_drop]; omega
    have ld1 : (t.take at1.toNat).length + (t.drop (at1 + 1).toNat).length ≤ t.length := by rw [List.length_take, List.length_drop]; omega
    by_cases w2 : way < 2
    · rw [decide_eq_true w2]
      walk_at "my_go"
      refine s_slTo lb at0 ?_
      walk_at "my_go"
      refine s_addT (by omega) ?_
      walk_at "my_go"
      refine s_addJ ?_
      walk_at "my_go"
      refine s_slFrom lb (by omega) ?_
      refine s_addT (by rw [List.length_append]; omega) ?_
      exact fin _ (by rw [List.length_append, List.length_append]; omega) (low_app (low_app (low_take lw) hs6.2) (low_drop lw))
    rw [decide_eq_false w2]
    walk_at "my_go"
    by_cases w4 : way < 4
    · rw [decide_eq_true w4]
      walk_at "my_go"
      refine s_slTo lb at0 ?_
      walk_at "my_go"
      refine s_addT (by omega) ?_
      walk_at "my_go"
      refine s_slFrom lb (by omega) ?_
      refine s_addT (by rw [List.length_append]; omega) ?_
      exact fin _ (by rw [List.length_append, List.length_append]; omega) (low_app (low_app (low_take lw) hs6.2) (low_drop lw))
    rw [decide_eq_false w4]
    walk_at "my_go"
    by_cases w5 : way = 4
    · rw [decide_eq_true w5]
      walk_at "my_go"
      refine s_slTo lb at0 ?_
      walk_at "my_go"
      refine s_addJ ?_
      walk_at "my_go"
      refine s_slFrom lb (by omega) ?_
      refine s_addT (by omega) ?_
      exact fin _ (by rw [List.length_append]; omega) (low_app (low_take lw) (low_drop lw))
    rw [decide_eq_false w5]
    walk_at "my_go"
    refine s_slTo lb (by omega) ?_
    walk_at "my_go"
    refine s_slFrom lb (by omega) ?_
    have l1 : (t.take (max at1 to7).toNat).length ≤ t.length := by rw [List.length_take]; omega
    have l2 : (t.drop (min at1 to7).toNat).length ≤ t.length := by rw [List.length_drop]; omega
    refine s_addT (by omega) ?_
    exact fin _ (by rw [List.length_append]; omega) (low_app (low_take lw) (low_drop lw))
end
abbrev s__law_long : Stmt := topS 42
theorem sc__law_long : FnScope ["state", "found", "turn"] ["state"] (defScope s__law_long) := ⟨rfl, rfl, rfl, by decide +kernel, rfl, by decide +kernel, by decide +kernel⟩
theorem st__law_long {x0 : V} : L2.start ["state", "found", "turn"] [x0] = [some x0, none, none] := rfl

def sp_long (K : Fg) : Sp := fun vs H Q _ => ∃ (d : Addr) (l : LI) (N : Nat), vs = [.ref d] ∧ StAt H d l N ∧ N < 900000000 ∧ ∀ r H', But d l.1 H H' → StAt H' d l (N + 61) → 0 ≤ r → r < 10 ^ 60 → Q (.int r) H'
theorem c_long {K : Fg} {H : Hp} {Q : VK} {E : XK} {d : Addr} {l : LI} {N : Nat} (hd : StAt H d l N) (hN : N < 900000000) (h : ∀ r H', But d l.1 H H' → StAt H' d l (N + 61) → 0 ≤ r → r < 10 ^ 60 → Q (.int r) H') : sp_long K ([.ref d] ++ []) H Q E := ⟨d, l, N, rfl, hd, hN, h⟩
theorem pow10_le {i j : Nat} (h : i ≤ j) : (10 : Int) ^ i ≤ 10 ^ j := by
  have := Nat.pow_le_pow_right (show 0 < 10 by decide) h
  exact_mod_cast this
section
variable {P : Program} {w : World} {K : PySem.W.Frag} {mg : Str → Option Value} {base : Heap}
theorem ok__law_long {f : Addr} {fd : FuncData} (F : Fun K "_law_long" "_law_long" s__law_long f fd) (G__law_draw : Cal P w K mg base CX0 2 "_law_draw" ["state", "size"] [] (sp_takeS K)) (G__law_pick : Cal P w K mg base CX0 3 "_law_pick" ["state", "items"] [] (sp_pickS K)) (z_range : mg "range" = none) : FnOk P w K mg base CX0 4 f fd ["state"] (sp_long K) := by
  refine F.ok (k := 3) sc__law_long (fun vs H Q E h => ?_) (fun cdv A outer s H vs Q E hr h => ?_)
  · obtain ⟨d, l, N, rfl, D0, hN, q⟩ := h; rfl
  · obtain ⟨d, l, N, rfl, D0, hN, q⟩ := h
    refine ⟨_, (pss_cons (ps_set (i := 1) sc__law_long.nd rfl (by first | exact Or.inl rfl | exact Or.inr rfl) pe_int)
      (pss_cons (ps_for PassesOwn.never rfl (pi_range1 (by rfl) z_range (pa_cons (pe_cal G__law_pick (hr.mono (by decide)) (by rfl) pass0 (pa_cons (pv 0) (pa_cons (pe_lst (pa_cons pe_int (pa_cons pe_int (pa_cons pe_int (pa_cons pe_int (pa_cons pe_int (pa_cons pe_int (pa_cons pe_int pa_nil)))))))) pa_nil))) pa_nil)) (pg_name (i := 2) sc__law_long.nd rfl (by first | exact Or.inl rfl | exact Or.inr rfl)) (pss_one (ps_set (i := 1) sc__law_long.nd rfl (by first | exact Or.inl rfl | exact Or.inr rfl) (pe_op (opAddK K) (pe_op opMul (pv 1) pe_int) (pe_cal G__law_draw (hr.mono (by decide)) (by rfl) pass0 (pa_cons (pv 0) (pa_cons pe_int pa_nil)))))))
      (pss_one (ps_ret (pv 1))))), ?_⟩
    rw [st__law_long]
    try simp only [cxK, cxK2]

    have md : mSt d l d := .inl rfl
    have ml : mSt d l l.1 := .inr (.inl rfl)
    walk_at "my_go"
    refine s_newS (A := rInt) (K := K) (M := mSt d l) (as := [1, 1, 1, 2, 5, 20, 60]) D0.own (len_ok (by simp)) (.cons rfl (.cons rfl (.cons rfl (.cons rfl (.cons rfl (.cons rfl (.cons rfl .nil))))))) ?_
    intro v1 H1 s1 r1
    walk_at "my_go"
    refine c_pickS (D0.same s1) md ml r1.l (by simp) (by simp) (by omega) ?_
    rintro y2 n2 H2 b2 D2 hm2 rfl
    have hn2 : 1 ≤ n2 ∧ n2 ≤ 60 := by
      simp only [List.mem_cons, List.not_mem_nil, or_false] at hm2
      omega
    walk_at "my_go"
    refine s_rng (by omega) ?_
    have b02 := But.same' s1 b2
    refine forR_by (fun i σ H3 => ∃ (f : Int) (o2 : Option V), σ = [some (.ref d), some (.int f), o2] ∧ StAt H3 d l (N + 1 + i) ∧ But d l.1 H H3 ∧ 0 ≤ f ∧ f < 10 ^ i) ⟨0, _, rfl, D2, b02, Int.le_refl _, by decide⟩ ?_ ?_
    · rintro i σ H3 Nx hi ⟨f, o2, rfl, D3, b3, f0, f1⟩ hk
      have hi60 : i < 60 := by omega
      have f2 : f < 10 ^ 60 := Int.lt_of_lt_of_le f1 (pow10_le (by omega))
      have bf : Bd 200 f := by
        unfold Bd
        omega
      walk_at "my_go"
      rename_i z4 H4 b4 D4 z40 z41
      refine hk _ _ ⟨_, _, rfl, D4, b3.trans b4, by omega, ?_⟩
      rw [Int.pow_succ]
      omega
    · rintro σ H3 ⟨f, o2, rfl, D3, b3, f0, f1⟩
      walk_at "my_go"
      refine q _ _ b3 (D3.le (by omega)) f0 (Int.lt_of_lt_of_le f1 (pow10_le (by omega)))
end
abbrev s__law_any_fraction : Stmt := topS 43
theorem sc__law_any_fraction : FnScope ["state", "n"] ["state"] (defScope s__law_any_fraction) := ⟨rfl, rfl, rfl, by decide +kernel, rfl, by decide +kernel, by decide +kernel⟩
theorem st__law_any_fraction {x0 : V} : L2.start ["state", "n"] [x0] = [some x0, none] := rfl

def sp_anyF (K : Fg) : Sp := fun vs H Q _ => ∃ (M : Ms) (d : Addr) (l : LI) (N : Nat), vs = [.ref d] ∧ StAt H d l N ∧ M d ∧ M l.1 ∧ Own M H ∧ N < 800000000 ∧ ∀ v q H', But d l.1 H H' → StAt H' d l (N + 130) → rFr K M H' v q → D60 q → Q v H'
theorem c_anyF {K : Fg} {M : Ms} {H : Hp} {Q : VK} {E : XK} {d : Addr} {l : LI} {N : Nat} (hd : StAt H d l N) (md : M d) (ml : M l.1) (ow : Own M H) (hN : N < 800000000) (h : ∀ v q H', But d l.1 H H' → StAt H' d l (N + 130) → rFr K M H' v q → D60 q → Q v H') : sp_anyF K ([.ref d] ++ []) H Q E := ⟨M, d, l, N, rfl, hd, md, ml, ow, hN, h⟩
theorem d60_div {n e : Int} (h1 : n.natAbs < 10 ^ 60) (h2 : 0 < e) (h3 : e < 10 ^ 60) : D60 ((n : Rat) / (e : Rat)) := by
  have h := low_terms (n := n) (show e ≠ 0 by omega) rfl
  obtain ⟨e1, e2⟩ := h.1 h2
  have gp := gcd_pos_of (n := n) (show e ≠ 0 by omega)
  constructor
  · rw [e1]
    refine Nat.lt_of_le_of_lt ?_ h1
    rw [Int.natAbs_ediv_of_dvd (gcd_dvd_l n e)]
    exact Nat.div_le_self ..
  · have := den_parts (n := n) h2
    omega
section
variable {P : Program} {w : World} {K : PySem.W.Frag} {mg : Str → Option Value} {base : Heap}
theorem ok__law_any_fraction {f : Addr} {fd : FuncData} (F : Fun K "_law_any_fraction" "_law_any_fraction" s__law_any_fraction f fd) (G__law_frac : Cal P w K mg base CX0 1 "_law_frac" ["n", "d"] [] (sp_div K)) (G__law_long : Cal P w K mg base CX0 4 "_law_long" ["state"] [] (sp_long K)) (G__law_pick : Cal P w K mg base CX0 3 "_law_pick" ["state", "items"] [] (sp_pickS K)) (z_max : mg "max" = none) : FnOk P w K mg base CX0 5 f fd ["state"] (sp_anyF K) := by
  refine F.ok (k := 4) sc__law_any_fraction (fun vs H Q E h => ?_) (fun cdv A outer s H vs Q E hr h => ?_)
  · obtain ⟨M, d, l, N, rfl, D0, md, ml, ow, hN, q⟩ := h; rfl
  · obtain ⟨M, d, l, N, rfl, D0, md, ml, ow, hN, q⟩ := h
    refine ⟨_, (pss_cons (ps_set (i := 1) sc__law_any_fraction.nd rfl (by first | exact Or.inl rfl | exact Or.inr rfl) (pe_op opMul (pe_cal G__law_long (hr.mono (by decide)) (by rfl) pass0 (pa_cons (pv 0) pa_nil)) (pe_cal G__law_pick (hr.mono (by decide)) (by rfl) pass0 (pa_cons (pv 0) (pa_cons (pe_lst (pa_cons pe_int (pa_cons pe_int (pa_cons (pe_un un_neg pe_int) pa_nil)))) pa_nil)))))
      (pss_one (ps_ret (pe_cal G__law_frac (hr.mono (by decide)) (by rfl) pass0 (pa_cons (pv 1) (pa_cons (pe_callB (callMax rfl) (by rfl) z_max (by decide +kernel) (pa_cons pe_int (pa_cons (pe_cal G__law_pick (hr.mono (by decide)) (by rfl) pass0 (pa_cons (pv 0) (pa_cons (pe_lst (pa_cons pe_int (pa_cons pe_int (pa_cons (pe_cal G__law_long (hr.mono (by decide)) (by rfl) pass0 (pa_cons (pv 0) pa_nil)) pa_nil)))) pa_nil))) pa_nil))) pa_nil)))))), ?_⟩
    rw [st__law_any_fraction]
    try simp only [cxK, cxK2]

    walk_at "my_go"
    refine c_long D0 (by omega) ?_
    intro n1 H1 b1 D1 n10 n11
    walk_at "my_go"
    refine s_newS (A := rInt) (K := K) (M := M) (as := [1, 1, -1]) (Own.but b1 ow) (len_ok (by simp)) (.cons rfl (.cons rfl (.cons rfl .nil))) ?_
    intro v2 H2 s2 r2
    walk_at "my_go"
    refine c_pickS (D1.same s2) md ml r2.l (by simp) (by simp) (by omega) ?_
    rintro y3 e3 H3 b3 D3 hm3 rfl
    have he3 : e3 = 1 ∨ e3 = -1 := by
      simp only [List.mem_cons, List.not_mem_nil, or_false] at hm3
      omega
    have bn1 : Bd 200 n1 := by unfold Bd; omega
    have be3 : Bd 200 e3 := by unfold Bd; omega
    walk_at "my_go"
    have hn : (n1 * e3).natAbs < 10 ^ 60 := by
      rcases he3 with rfl | rfl
      · rw [Int.mul_one]; omega
      · rw [Int.mul_neg, Int.mul_one]; omega
    generalize n1 * e3 = n at *
    refine c_long D3 (by omega) ?_
    intro n4 H4 b4 D4 n40 n41
    walk_at "my_go"
    have b04 : But d l.1 H H4 := ((b1.same s2).trans b3).trans b4
    refine s_newS (A := rInt) (K := K) (M := M) (as := [1, 1, n4]) (Own.but b04 ow) (len_ok (by simp)) (.cons rfl (.cons rfl (.cons rfl .nil))) ?_
    intro v5 H5 s5 r5
    walk_at "my_go"
    refine c_pickS (D4.same s5) md ml r5.l (by simp) (by simp) (by omega) ?_
    rintro y6 e6 H6 b6 D6 hm6 rfl
    have he6 : 0 ≤ e6 ∧ e6 < 10 ^ 60 := by
      simp only [List.mem_cons, List.not_mem_nil, or_false] at hm6
      omega
    have b06 : But d l.1 H H6 := (b04.same s5).trans b6
    walk_at "my_go"
    have hm : 0 < max 1 e6 ∧ max 1 e6 < (10 : Int) ^ 60 := by omega
    generalize max 1 e6 = m at *
    have m0 : m ≠ 0 := by omega
    have bm : Bd 200 m := by unfold Bd; omega
    have ow6 : Own M H6 := Own.but b06 ow
    have dq := d60_div hn hm.1 hm.2
    walk_at "my_go"
    rename_i v7 H7 s7 r7
    exact q _ _ _ (b06.same s7) ((D6.same s7).le (by omega)) r7 dq
end
abbrev s__law_fraction_text : Stmt := topS 44
theorem sc__law_fraction_text : FnScope ["x"] ["x"] (defScope s__law_fraction_text) := ⟨rfl, rfl, rfl, by decide +kernel, rfl, by decide +kernel, by decide +kernel⟩
theorem st__law_fraction_text {x0 : V} : L2.start ["x"] [x0] = [some x0] := rfl

def sp_lfText (K : Fg) : Sp := fun vs H Q _ => ∃ (M : Ms) (x : V) (q : Rat), vs = [x] ∧ rFr K M H x q ∧ D60 q ∧ Q (.str (SX.S (fT q))) H
theorem c_lfText {K : Fg} {M : Ms} {H : Hp} {Q : VK} {E : XK} {x : V} {q : Rat} (h : rFr K M H x q) (d : D60 q) (k : Q (.str (SX.S (fT q))) H) : sp_lfText K ([x] ++ []) H Q E := ⟨M, x, q, rfl, h, d, k⟩
section
variable {P : Program} {w : World} {K : PySem.W.Frag} {mg : Str → Option Value} {base : Heap}
theorem ok__law_fraction_text {f : Addr} {fd : FuncData} (F : Fun K "_law_fraction_text" "_law_fraction_text" s__law_fraction_text f fd) (z_str : mg "str" = none) : FnOk P w K mg base CX0 1 f fd ["x"] (sp_lfText K) := by
  refine F.ok (k := 0) sc__law_fraction_text (fun vs H Q E h => ?_) (fun cdv A outer s H vs Q E hr h => ?_)
  · obtain ⟨M, x, q, rfl, h, d, k⟩ := h; rfl
  · obtain ⟨M, x, q, rfl, h, d, k⟩ := h
    refine ⟨_, (pss_one (ps_ret (pe_ifExp (pt_cmpR (opEqK K hr.units) (pe_ix (ixSeq K) (pv 0) pe_int (fun _ _ => rfl)) pe_int (nomark _)) (pe_callTy call_str_int (by rfl) z_str (by decide +kernel) (pa_cons (pe_ix (ixSeq K) (pv 0) pe_int (fun _ _ => rfl)) pa_nil)) (pe_op (opAddTK K) (pe_op (opAddTK K) (pe_callTy call_str_int (by rfl) z_str (by decide +kernel) (pa_cons (pe_ix (ixSeq K) (pv 0) pe_int (fun _ _ => rfl)) pa_nil)) pe_str) (pe_callTy call_str_int (by rfl) z_str (by decide +kernel) (pa_cons (pe_ix (ixSeq K) (pv 0) pe_int (fun _ _ => rfl)) pa_nil)))))), ?_⟩
    rw [st__law_fraction_text]
    try simp only [cxK, cxK2]

    walk_at "my_go"
    by_cases h1 : (q.den : Int) = 1
    · rw [decide_eq_true h1]
      walk_at "my_go"
      refine ⟨log_60 d.1, ?_⟩
      rw [int_tx]
      rw [fT_one h1] at k
      exact k
    · rw [decide_eq_false h1]
      walk_at "my_go"
      refine ⟨log_60 d.1, ?_⟩
      rw [int_tx]
      walk_at "my_go"
      rw [tx_slash]
      have l1 := intL_len d.1
      have l2 := intL_len (den_abs d)
      refine s_addT (by rw [List.length_cons, List.length_nil]; omega) ?_
      walk_at "my_go"
      refine ⟨log_60 (den_abs d), ?_⟩
      rw [int_tx]
      refine s_addT (by rw [List.length_append, List.length_cons, List.length_nil]; omega) ?_
      rw [fT_two h1, ← List.append_assoc] at k
      exact k
end
abbrev s__law_knot_text : Stmt := topS 45
theorem sc__law_knot_text : FnScope ["knot"] ["knot"] (defScope s__law_knot_text) := ⟨rfl, rfl, rfl, by decide +kernel, rfl, by decide +kernel, by decide +kernel⟩
theorem st__law_knot_text {x0 : V} : L2.start ["knot"] [x0] = [some x0] := rfl

def sp_lkText (K : Fg) : Sp := fun vs H Q _ => ∃ (M : Ms) (x : V) (a : Kn), vs = [x] ∧ rKn K M H x a ∧ D60 a.1 ∧ D60 a.2 ∧ Q (.str (SX.S (kT a))) H
theorem c_lkText {K : Fg} {M : Ms} {H : Hp} {Q : VK} {E : XK} {x : V} {a : Kn} (h : rKn K M H x a) (d1 : D60 a.1) (d2 : D60 a.2) (k : Q (.str (SX.S (kT a))) H) : sp_lkText K ([x] ++ []) H Q E := ⟨M, x, a, rfl, h, d1, d2, k⟩
section
variable {P : Program} {w : World} {K : PySem.W.Frag} {mg : Str → Option Value} {base : Heap}
theorem ok__law_knot_text {f : Addr} {fd : FuncData} (F : Fun K "_law_knot_text" "_law_knot_text" s__law_knot_text f fd) (G__law_fraction_text : Cal P w K mg base CX0 1 "_law_fraction_text" ["x"] [] (sp_lfText K)) : FnOk P w K mg base CX0 2 f fd ["knot"] (sp_lkText K) := by
  refine F.ok (k := 1) sc__law_knot_text (fun vs H Q E h => ?_) (fun cdv A outer s H vs Q E hr h => ?_)
  · obtain ⟨M, x, a, rfl, h, d1, d2, k⟩ := h; rfl
  · obtain ⟨M, x, a, rfl, h, d1, d2, k⟩ := h
    refine ⟨_, (pss_one (ps_ret (pe_op (opAddTK K) (pe_op (opAddTK K) (pe_cal G__law_fraction_text (hr.mono (by decide)) (by rfl) pass0 (pa_cons (pe_ix (ixSeq K) (pv 0) pe_int (fun _ _ => rfl)) pa_nil)) pe_str) (pe_cal G__law_fraction_text (hr.mono (by decide)) (by rfl) pass0 (pa_cons (pe_ix (ixSeq K) (pv 0) pe_int (fun _ _ => rfl)) pa_nil))))), ?_⟩
    rw [st__law_knot_text]
    try simp only [cxK, cxK2]

    walk_at "my_go"
    rename_i y1 q1
    refine c_lfText q1 d1 ?_
    walk_at "my_go"
    rw [tx_colon]
    have l1 := fT_len d1
    have l2 := fT_len d2
    refine s_addT (by rw [List.length_cons, List.length_nil]; omega) ?_
    walk_at "my_go"
    rename_i y2 q2
    refine c_lfText q2 d2 ?_
    refine s_addT (by rw [List.length_append, List.length_cons, List.length_nil]; omega) ?_
    unfold kT at k
    rw [List.append_assoc]
    exact k
end
abbrev s__law_whole_text : Stmt := topS 52
theorem sc__law_whole_text : FnScope ["state", "small", "times", "way", "knots", "turn", "k", "time", "knot"] ["state"] (defScope s__law_whole_text) := ⟨rfl, rfl, rfl, by decide +kernel, rfl, by decide +kernel, by decide +kernel⟩
theorem st__law_whole_text {x0 : V} : L2.start ["state", "small", "times", "way", "knots", "turn", "k", "time", "knot"] [x0] = [some x0, none, none, none, none, none, none, none, none] := rfl

theorem s_revS {α : Type} {A : Rp α} [Mono A] {K : Fg} {M : Ms} {H : Hp} {x : V} {as : List α} {Q : VK} (h : rS A K M H x as) (ow : Own M H) (k : ∀ v H', Same H H' → rS A K M H' v as.reverse → Q v H') : ∃ a xs, x = .ref a ∧ SqL K H a xs ∧ ∀ p, H p = none → Q (.ref p) (upd H p (.lst xs.reverse)) := by
  obtain ⟨p, vs, rfl, l, e, r⟩ := h
  refine ⟨p, vs, rfl, .of e, fun q n => k _ _ (Same.upd_new n) ⟨q, _, rfl, ow.fresh n, upd_same, ?_⟩⟩
  have r2 := Prd.monoR (fun _ _ z => Rp.same (Same.upd_new (o := .lst vs.reverse) n) z) r
  exact prd_rev r2
def sp_wholeT (K : Fg) : Sp := fun vs H Q _ => ∃ (M : Ms) (d : Addr) (l : LI) (N : Nat), vs = [.ref d] ∧ StAt H d l N ∧ M d ∧ M l.1 ∧ Own M H ∧ N < 700000000 ∧ ∀ t H', But d l.1 H H' → StAt H' d l (N + 10000) → t.length ≤ 10400 → Low t → Q (.str (SX.S t)) H'
theorem c_wholeT {K : Fg} {M : Ms} {H : Hp} {Q : VK} {E : XK} {d : Addr} {l : LI} {N : Nat} (hd : StAt H d l N) (md : M d) (ml : M l.1) (ow : Own M H) (hN : N < 700000000) (h : ∀ t H', But d l.1 H H' → StAt H' d l (N + 10000) → t.length ≤ 10400 → Low t → Q (.str (SX.S t)) H') : sp_wholeT K ([.ref d] ++ []) H Q E := ⟨M, d, l, N, rfl, hd, md, ml, ow, hN, h⟩
section
variable {P : Program} {w : World} {K : PySem.W.Frag} {mg : Str → Option Value} {base : Heap}
theorem ok__law_whole_text {f : Addr} {fd : FuncData} (F : Fun K "_law_whole_text" "_law_whole_text" s__law_whole_text f fd) (G__law_any_fraction : Cal P w K mg base CX0 5 "_law_any_fraction" ["state"] [] (sp_anyF K)) (G__law_draw : Cal P w K mg base CX0 2 "_law_draw" ["state", "size"] [] (sp_takeS K)) (G__law_frac : Cal P w K mg base CX0 1 "_law_frac" ["n", "d"] [] (sp_div K)) (G__law_in_order : Cal P w K mg base CX0 2 "_law_in_order" ["times"] [] (sp_inOrder K)) (G__law_knot_text : Cal P w K mg base CX0 2 "_law_knot_text" ["knot"] [] (sp_lkText K)) (G__law_pick : Cal P w K mg base CX0 3 "_law_pick" ["state", "items"] [] (sp_pickS K)) (z_enumerate : mg "enumerate" = none) (z_range : mg "range" = none) : FnOk P w K mg base CX0 6 f fd ["state"] (sp_wholeT K) := by
  refine F.ok (k := 5) sc__law_whole_text (fun vs H Q E h => ?_) (fun cdv A outer s H vs Q E hr h => ?_)
  · obtain ⟨M, d, l, N, rfl, D0, md, ml, ow, hN, q⟩ := h; rfl
  · obtain ⟨M, d, l, N, rfl, D0, md, ml, ow, hN, q⟩ := h
    refine ⟨_, (pss_cons (ps_set (i := 1) sc__law_whole_text.nd rfl (by first | exact Or.inl rfl | exact Or.inr rfl) (pe_lc (own := [("turn", 5)]) rfl sc__law_whole_text.nd (pi_range1 (by rfl) z_range (pa_cons pe_int pa_nil)) (blkOk_by (own := [("turn", 5)]) (N := ["state", "small", "times", "way", "knots", "turn", "k", "time", "knot"]) (sc := defScope s__law_whole_text) (by decide +kernel)) (fun _ _ _ _ _ => (pg_name (i := 5) sc__law_whole_text.nd rfl (by first | exact Or.inl rfl | exact Or.inr rfl))) (fun _ _ _ _ _ => pts_nil) (fun _ _ _ _ _ => (pe_cal G__law_frac (hr.mono (by decide)) (by rfl) pass0 (pa_cons (pe_op op_sub (pe_cal G__law_draw (hr.mono (by decide)) (by rfl) pass0 (pa_cons (pv 0) (pa_cons pe_int pa_nil))) pe_int) (pa_cons (pe_op (opAddK K) pe_int (pe_cal G__law_draw (hr.mono (by decide)) (by rfl) pass0 (pa_cons (pv 0) (pa_cons pe_int pa_nil)))) pa_nil))))))
      (pss_cons (ps_set (i := 2) sc__law_whole_text.nd rfl (by first | exact Or.inl rfl | exact Or.inr rfl) (pe_cal G__law_in_order (hr.mono (by decide)) (by rfl) pass0 (pa_cons (pe_slice (slListK K) (pv 1) po_none (po_some (pe_op (opAddK K) pe_int (pe_cal G__law_draw (hr.mono (by decide)) (by rfl) pass0 (pa_cons (pv 0) (pa_cons pe_int pa_nil)))))) pa_nil)))
      (pss_cons (ps_set (i := 3) sc__law_whole_text.nd rfl (by first | exact Or.inl rfl | exact Or.inr rfl) (pe_cal G__law_draw (hr.mono (by decide)) (by rfl) pass0 (pa_cons (pv 0) (pa_cons pe_int pa_nil))))
      (pss_cons (ps_if (pt_cmpR (opEqK K hr.units) (pv 3) pe_int (nomark _)) (pss_one (ps_set (i := 2) sc__law_whole_text.nd rfl (by first | exact Or.inl rfl | exact Or.inr rfl) (pe_revL (pv 2)))) pss_nil)
      (pss_cons (ps_if (pt_cmpR (opEqK K hr.units) (pv 3) pe_int (nomark _)) (pss_one (ps_setLc (i := 2) (own := [("k", 6)]) rfl sc__law_whole_text.nd rfl rfl (sw_true rfl rfl rfl (by decide +kernel)) (pi_range1 (by rfl) z_range (pa_cons (pe_op (opAddK K) pe_int (pe_cal G__law_draw (hr.mono (by decide)) (by rfl) pass0 (pa_cons (pv 0) (pa_cons pe_int pa_nil)))) pa_nil)) (blkOk_by (own := [("k", 6)]) (N := ["state", "small", "times", "way", "knots", "turn", "k", "time", "knot"]) (sc := defScope s__law_whole_text) (by decide +kernel)) (fun _ _ _ _ _ => (pg_name (i := 6) sc__law_whole_text.nd rfl (by first | exact Or.inl rfl | exact Or.inr rfl))) (fun _ _ _ _ _ => pts_nil) (fun _ _ _ _ _ => (pe_tup (pa_cons (pv 6) (pa_cons pe_int pa_nil)))))) pss_nil)
      (pss_cons (ps_if (pt_cmpR (opEqK K hr.units) (pv 3) pe_int (nomark _)) (pss_one (ps_set (i := 2) sc__law_whole_text.nd rfl (by first | exact Or.inl rfl | exact Or.inr rfl) (pe_op (opAddK K) (pv 2) (pe_lst (pa_cons (pe_cal G__law_any_fraction (hr.mono (by decide)) (by rfl) pass0 (pa_cons (pv 0) pa_nil)) pa_nil))))) pss_nil)
      (pss_cons (ps_setLc (i := 4) (own := [("k", 6), ("time", 7)]) rfl sc__law_whole_text.nd rfl rfl (sw_true rfl rfl rfl (by decide +kernel)) (piEnumK K (by rfl) z_enumerate (pa_cons (pv 2) pa_nil)) (blkOk_by (own := [("k", 6), ("time", 7)]) (N := ["state", "small", "times", "way", "knots", "turn", "k", "time", "knot"]) (sc := defScope s__law_whole_text) (by decide +kernel)) (fun _ _ _ _ _ => (pgTupK (n := 2) K rfl (pgs_cons (pg_name (i := 6) sc__law_whole_text.nd rfl (by first | exact Or.inl rfl | exact Or.inr rfl)) (pgs_cons (pg_name (i := 7) sc__law_whole_text.nd rfl (by first | exact Or.inl rfl | exact Or.inr rfl)) pgs_nil)))) (fun _ _ _ _ _ => pts_nil) (fun _ _ _ _ _ => (pe_tup (pa_cons (pv 7) (pa_cons (pe_ifExp (pt_cmpR (opEqK K hr.units) (pv 6) pe_int (nomark _)) (pe_cal G__law_any_fraction (hr.mono (by decide)) (by rfl) pass0 (pa_cons (pv 0) pa_nil)) (pe_cal G__law_pick (hr.mono (by decide)) (by rfl) pass0 (pa_cons (pv 0) (pa_cons (pv 1) pa_nil)))) pa_nil)))))
      (pss_one (ps_ret (pe_join pe_str (pe_lc (own := [("knot", 8)]) rfl sc__law_whole_text.nd (piListK K (pv 4)) (blkOk_by (own := [("knot", 8)]) (N := ["state", "small", "times", "way", "knots", "turn", "k", "time", "knot"]) (sc := defScope s__law_whole_text) (by decide +kernel)) (fun _ _ _ _ _ => (pg_name (i := 8) sc__law_whole_text.nd rfl (by first | exact Or.inl rfl | exact Or.inr rfl))) (fun _ _ _ _ _ => pts_nil) (fun _ _ _ _ _ => (pe_cal G__law_knot_text (hr.mono (by decide)) (by rfl) pass0 (pa_cons (pv 8) pa_nil)))))))))))))), ?_⟩
    rw [st__law_whole_text]
    try simp only [cxK, cxK2]

    walk_at "my_go"
    refine s_rng (by omega) ?_
    refine lc_drawR (B := rFr) (M := M) (K := K) (c := 2) D60 md ml D0 ow (by omega) ?_ ?_
    · intro i3 M3 H3 Z3 N3 hi3 ow3 md3 ml3 D3 b3 hZ3
      walk_at "my_go"
      rename_i r6 H6 b6 D6 p6 q6 r7 H7 b7 D7 p7 q7 v8 H8 s8 r8
      refine hZ3 _ _ _ ((b6.trans b7).same s8) ((D7.same s8).le (by omega)) r8 ?_
      exact d60_div (by omega) (by omega) (by omega)
    · intro D5 small H5 b5 D5' r5 l5 d5
      walk_at "my_go"
      rename_i r6 H6 b6 D6 p6 q6
      have ow6 : Own M H6 := Own.but (b5.trans b6) ow
      have r6' : rS rFr K M H6 (.ref D5) small := Rp.but b6 md ml r5
      refine s_cutL2 r6'.l ow6 inferInstance ?_
      intro v7 H7 s7 r7
      have e7 : (∀ t ∈ cutA small none (some (1 + r6)), D60 t) ∧ (cutA small none (some (1 + r6))).length ≤ 5 := by
        unfold cutA
        refine ⟨fun t ht => d5 t (List.mem_of_mem_drop (List.mem_of_mem_take ht)), ?_⟩
        rw [List.length_take, List.length_drop]
        omega
      generalize cutA small none (some (1 + r6)) = cut at *
      have ow7 := ow6.same s7
      walk_at "my_go"
      refine c_inOrder r7 (by omega) e7.1 ow7 ?_
      intro v8 us H8 s8 r8 _ n8 _ _ d8
      have D8 := (D6.same s7).same s8
      have b08 := ((b5.trans b6).same s7).same s8
      walk_at "my_gom"
      rename_i way H9 b9 D9 w0 w8
      have ow9 : Own M H9 := Own.but (b08.trans b9) ow
      have b09 := b08.trans b9
      have rsm : rS rFr K M H9 (.ref D5) small := Rp.but b9 md ml (Rp.same (s7.trans s8) r6')
      have r9 : rS rFr K M H9 v8 us := Rp.but b9 md ml r8
      refine mark_cut (fun σ' H' => ∃ (v : V) (ts : List Rat), σ' = [some (.ref d), some (.ref D5), some v, some (.int way), none, none, none, none, none] ∧ Same H9 H' ∧ rS rFr K M H' v ts ∧ ts.length ≤ 5 ∧ ∀ t ∈ ts, D60 t) ?_ ?_
      · rintro σ10 H10 ⟨v10, ts10, rfl, s10, r10, n10, d10⟩
        have D10 := D9.same s10
        have b10 := b09.same s10
        refine s_cut (fun σ' H' => ∃ (v : V) (ts : List Rat) (o6 : Option V), σ' = [some (.ref d), some (.ref D5), some v, some (.int way), none, none, o6, none, none] ∧ But d l.1 H10 H' ∧ StAt H' d l (N + 2 * 5 + 3) ∧ rS rFr K M H' v ts ∧ ts.length ≤ 41 ∧ ∀ t ∈ ts, D60 t) ?_ ?_
        · rintro σ11 H11 ⟨v11, ts11, o11, rfl, b11, D11, r11, n11, d11⟩
          have b12 := b10.trans b11
          have ow11 : Own M H11 := Own.but b12 ow
          refine s_cut (fun σ' H' => ∃ (v : V) (ts : List Rat) (o6 : Option V), σ' = [some (.ref d), some (.ref D5), some v, some (.int way), none, none, o6, none, none] ∧ But d l.1 H11 H' ∧ StAt H' d l (N + 2 * 5 + 3 + 130) ∧ rS rFr K M H' v ts ∧ ts.length ≤ 42 ∧ ∀ t ∈ ts, D60 t) ?_ ?_
          · rintro σ13 H13 ⟨v13, ts13, o13, rfl, b13, D13, r13, n13, d13⟩
            have b14 := b12.trans b13
            have ow13 : Own M H13 := Own.but b14 ow
            have rs13 : rS rFr K M H13 (.ref D5) small := Rp.but (b11.trans b13) md ml (Rp.same s10 rsm)
            walk_at "my_go"
            refine s_lcE ?_
            walk_at "my_go"
            refine lc_drawE (A := rFr) (B := rKn) (M := M) (c := 130) (fun k => D60 k.1 ∧ D60 k.2) r13.l md ml D13 ow13 (by omega) ?_ ?_
            · intro i5 a5 v5 M5 H5' Z5 N5 hi5 tr5 r5' ow5 md5 ml5 D5x b5' hZ5
              have rs5 : rL rFr K M5 H5' (.ref D5) small := Mono.mono tr5 rs13.l
              have i5l := (List.getElem?_eq_some_iff.mp hi5).1
              have m130 := Nat.mul_le_mul_left 130 (show i5 ≤ 42 by omega)
              have da := d13 a5 (List.mem_of_getElem? hi5)
              walk_at "my_go"
              rename_i y z hy hz
              obtain rfl : y = .int (i5 : Int) := hy
              have fin5 : ∀ v q H6, But d l.1 H5' H6 → StAt H6 d l (N + 2 * 5 + 3 + 130 + 130 * i5 + 130) → rFr K M5 H6 v q → D60 q → NewT [z, v] H6 Z5 := fun v q H6 b6 D6 r6 d6 => by
                refine s_newT2 (A := rFr) (B := rFr) (K := K) (M := M5) (Own.but b6 ow5) (Rp.but b6 md5 ml5 (show rFr K M5 H5' z a5 from hz)) r6 ?_
                intro v9 H9 s9 ow9 r9
                exact hZ5 _ (a5, q) _ (b6.same s9) (D6.same s9) r9 ⟨da, d6⟩
              walk_at "my_go"
              by_cases hi2 : (i5 : Int) = 2
              · rw [decide_eq_true hi2]
                walk_at "my_go"
                refine c_anyF D5x md5 ml5 ow5 (by omega) ?_
                intro v8 q8 H8 b8 D8 r8 d8
                walk_at "my_go"
                exact fin5 _ _ _ b8 (D8.le (by omega)) r8 d8
              · rw [decide_eq_false hi2]
                walk_at "my_go"
                refine c_pickS D5x md5 ml5 rs5 (by omega) (by omega) (by omega) ?_
                intro v8 q8 H8 b8 D8 hm8 r8
                walk_at "my_go"
                exact fin5 _ _ _ b8 (D8.le (by omega)) r8 (d5 q8 hm8)
            · intro D6x ks H6' b6' D6' r6x l6 d6
              walk_at "my_go"
              have m130 := Nat.mul_le_mul_left 130 (show ts13.length ≤ 42 by omega)
              have b16 := b14.trans b6'
              have ow16 : Own M H6' := Own.but b16 ow
              refine ⟨⟨_, rfl⟩, ?_⟩
              walk_at "my_go"
              refine lc_map (A := rKn) (B := rKx) (M := M) ks (fun _ => true) (fun q => q) r6x.l ow16 (by omega) ?_ ?_
              · rintro i7 q7 vq M' H7' Z N7 hi7 ht hw2 rq hZ hN
                obtain ⟨d1, d2⟩ := d6 q7 (List.mem_of_getElem? hi7)
                walk_at "my_go"
                refine c_lkText rq d1 d2 ?_
                exact hZ rfl _ _ (Same.refl _) rfl
              intro D8 vs8 H8' f8 s8' e8 p8 r8'
              rw [List.filter_eq_self.mpr (fun _ _ => rfl), List.map_id'] at r8'
              refine s_joinX r8' (by omega) d6 ?_
              have rl := rows_len ks d6
              exact q _ _ (b16.same s8') ((D6'.same s8').le (by omega)) (by omega) (rows_low ks)
          · intro N2 hN2
            walk_at "my_go"
            by_cases w2 : way = 2
            · rw [decide_eq_true w2]
              walk_at "my_go"
              refine c_anyF D11 md ml ow11 (by omega) ?_
              intro v14 q14 H14 b14 D14 r14 d14
              walk_at "my_go"
              have ow14 : Own M H14 := Own.but b14 ow11
              refine s_newS (A := rFr) (K := K) (M := M) (as := [q14]) ow14 (len_ok (by simp)) (.cons r14 .nil) ?_
              intro v15 H15 s15 r15
              walk_at "my_go"
              refine s_catS (Rp.same s15 (Rp.but b14 md ml r11)) r15 (ow14.same s15) (by simp; omega) ?_
              intro v16 H16 s16 r16
              walk_at "my_go"
              refine hN2 _ _ ⟨_, ts11 ++ [q14], _, rfl, (b14.same s15).same s16, ((D14.same s15).same s16).le (by omega), r16, by rw [List.length_append]; simp; omega, fun t ht => ?_⟩
              rcases List.mem_append.mp ht with ht | ht
              · exact d11 t ht
              · rw [List.mem_singleton.mp ht]; exact d14
            · rw [decide_eq_false w2]
              walk_at "my_go"
              exact hN2 _ _ ⟨_, ts11, _, rfl, But.of_sameS (Same.refl _) D11, D11.le (by omega), r11, by omega, d11⟩
        · intro N2 hN2
          walk_at "my_go"
          by_cases w1 : way = 1
          · rw [decide_eq_true w1]
            walk_at "my_go"
            rename_i r11 H11 b11 D11 r110 r111
            refine s_rng (by omega) ?_
            have ow11 : Own M H11 := Own.but (b10.trans b11) ow
            refine lc_drawR (B := rFr) (M := M) (K := K) (c := 0) D60 md ml D11 ow11 (by omega) ?_ ?_
            · intro i3 M3 H3 Z3 N3 hi3 ow3 md3 ml3 D3 b3 hZ3
              walk_at "my_go"
              refine s_newFr (K := K) (r := ((0 + (i3 : Int) : Int) : Rat)) ow3 (Rat.num_intCast _) (by rw [Rat.den_intCast]; rfl) ?_
              intro v4 H4 s4 r4
              refine hZ3 _ _ _ (But.of_sameS s4 D3) ((D3.same s4).le (by omega)) r4 ⟨?_, ?_⟩
              · rw [Rat.num_intCast]; omega
              · rw [Rat.den_intCast]; decide
            · intro D12 ts12 H12 b12 D12' r12 l12 d12
              walk_at "my_go"
              exact hN2 _ _ ⟨_, ts12, _, rfl, b11.trans b12, D12'.le (by omega), r12, by omega, d12⟩
          · rw [decide_eq_false w1]
            walk_at "my_go"
            exact hN2 _ _ ⟨_, ts10, _, rfl, But.of_sameS (Same.refl _) D10, D10.le (by omega), r10, by omega, d10⟩
      · intro N2 hN2
        walk_at "my_go"
        by_cases w0 : way = 0
        · rw [decide_eq_true w0]
          walk_at "my_go"
          refine s_revL (A := rFr) (M := M) ?_
          walk_at "my_go"
          refine s_revS (Q := fun x H1 => gName 2 x [some (.ref d), some (.ref D5), some v8, some (.int way), none, none, none, none, none] H1 N2) r9 ow9 ?_
          intro v11 H11 s11 r11
          exact hN2 _ _ ⟨_, _, rfl, s11, r11, by rw [List.length_reverse]; omega, fun t ht => d8 t (List.mem_reverse.mp ht)⟩
        · rw [decide_eq_false w0]
          walk_at "my_go"
          exact hN2 _ _ ⟨_, us, rfl, Same.refl _, r9, by omega, d8⟩
end
abbrev s_law : Stmt := topS 53
theorem sc_law : FnScope ["script", "state", "turn", "text", "change", "odd"] ["script"] (defScope s_law) := ⟨rfl, rfl, rfl, by decide +kernel, rfl, by decide +kernel, by decide +kernel⟩
theorem st_law {x0 : V} : L2.start ["script", "state", "turn", "text", "change", "odd"] [x0] = [some x0, none, none, none, none, none] := rfl

def sp_law (K : Fg) : Sp := fun vs H Q _ => ∃ (a : Addr) (ns : List Int), vs = [.ref a] ∧ SqL K H a (ns.map V.int) ∧ ns.length ≤ 63 ∧ ∀ H', Q (.bl true) H'
/-! ### texts that are no tables -/
def fNo (p : List Nat) : Bool := decide (2 < (SP 47 (bare p)).length) || !(SP 47 (bare p)).all natB || (decide ((SP 47 (bare p)).length = 2) && (decide (dval ((SP 47 (bare p)).getD 1 []) < 2) || !decide (Nat.gcd (dval ((SP 47 (bare p)).getD 0 [])) (dval ((SP 47 (bare p)).getD 1 [])) = 1))) || (decide (p[0]? = some 45) && decide (dval ((SP 47 (bare p)).getD 0 []) = 0))
theorem fNo_none {p : List Nat} (h : fNo p = true) : fOf p = none := by
  cases hf : fOf p with
  | none => rfl
  | some q =>
    obtain ⟨a1, a2, a3, a4⟩ := fOf_parts2 hf
    obtain ⟨b1, b2, b3, b4, b5⟩ := lf_of hf
    have e0 : dval ((SP 47 (bare p)).getD 0 []) = q.num.natAbs := by
      have := numO_some.mp b2
      rw [this.1, dval_numL]
    unfold fNo at h
    rw [a2, e0, decide_eq_false (by omega)] at h
    simp only [Bool.not_true, Bool.false_or, Bool.or_eq_true, Bool.and_eq_true, decide_eq_true_eq, Bool.not_eq_true', decide_eq_false_iff_not] at h
    exfalso
    rcases h with ⟨h1, h2⟩ | ⟨h1, h2⟩
    · have := b4 h1
      have e1 : dval ((SP 47 (bare p)).getD 1 []) = q.den := by
        have z := numO_some.mp this.1
        rw [z.1, dval_numL]
      rw [e1] at h2
      rcases h2 with h2 | h2
      · have := this.2
        omega
      · exact h2 q.reduced
    · exact b5 h1 h2
def kNo (w : List Nat) : Bool := decide ((SP 58 w).length ≠ 2) || (SP 58 w).any fNo
theorem kNo_none {w : List Nat} (h : kNo w = true) : kOf w = none := by
  unfold kNo at h
  simp only [Bool.or_eq_true, decide_eq_true_eq] at h
  refine kOf_none (h.imp id fun h => ?_)
  obtain ⟨p, hp, hn⟩ := List.any_eq_true.mp h
  exact List.any_eq_true.mpr ⟨none, List.mem_map.mpr ⟨p, hp, fNo_none hn⟩, rfl⟩
theorem due_kno {l w : List Nat} (hw : w ∈ SP 32 l) (h : kOf w = none) : dueOf l = .inr txT0 := by
  have : ksOf (SP 32 l) = none := by
    unfold ksOf
    rw [if_pos (.inr (List.mem_map.mpr ⟨w, hw, h⟩))]
  unfold dueOf
  rw [this]
  rfl
theorem due_no {l : List Nat} (h : (SP 32 l).any kNo = true) : dueOf l = .inr txT0 := by
  obtain ⟨w, hw, hn⟩ := List.any_eq_true.mp h
  exact due_kno hw (kNo_none hn)
theorem SP_no {c : Nat} : ∀ {p : List Nat}, c ∉ p → SP c p = [p]
  | [], _ => rfl
  | x :: p, h => by
    have h1 : x ≠ c := fun z => h (by rw [z]; exact .head _)
    unfold SP
    rw [if_neg h1, SP_no (fun z => h (.tail _ z))]
theorem SP_app {c : Nat} : ∀ {p q : List Nat}, c ∉ p → SP c (p ++ c :: q) = p :: SP c q
  | [], q, _ => by
    show SP c (c :: q) = _
    rw [SP, if_pos rfl]
  | x :: p, q, h => by
    have h1 : x ≠ c := fun z => h (by rw [z]; exact .head _)
    show SP c (x :: (p ++ c :: q)) = _
    rw [SP, if_neg h1, SP_app (fun z => h (.tail _ z))]
theorem nat_long {p : List Nat} (h : 60 < p.length) : natB p = false := by
  unfold natB
  rw [decide_eq_false (show ¬ p.length ≤ 60 by omega), Bool.and_false, Bool.false_and, Bool.false_and]
theorem fOf_nat {l p : List Nat} (hp : p ∈ SP 47 (bare l)) (h : natB p = false) : fOf l = none := by
  cases hf : fOf l with
  | none => rfl
  | some q =>
    have := List.all_eq_true.mp (fOf_parts2 hf).2.1 p hp
    rw [h] at this
    cases this
theorem kOf_part {l p : List Nat} (hp : p ∈ SP 58 l) (h : fOf p = none) : kOf l = none := kOf_none (.inr (List.any_eq_true.mpr ⟨none, List.mem_map.mpr ⟨p, hp, h⟩, rfl⟩))
theorem no_rep {n c x : Nat} (h : x ≠ c) : x ∉ List.replicate n c := fun z => h (List.eq_of_mem_replicate z)
theorem due_b1 {n c : Nat} (hn : 60 < n) (h1 : 32 ≠ c) (h2 : 58 ≠ c) (h3 : 47 ≠ c) (h4 : c ≠ 45) : dueOf (List.replicate n c ++ [58, 48]) = .inr txT0 := by
  refine due_kno (w := List.replicate n c ++ [58, 48]) ?_ (kOf_part (p := List.replicate n c) ?_ (fOf_nat (p := List.replicate n c) ?_ (nat_long (by rw [List.length_replicate]; exact hn))))
  · rw [SP_no]
    · exact .head _
    · intro z
      rcases List.mem_append.mp z with z | z
      · exact no_rep h1 z
      · simp at z
  · rw [show List.replicate n c ++ [58, 48] = List.replicate n c ++ 58 :: [48] from rfl, SP_app (no_rep h2)]
    exact .head _
  · have e : bare (List.replicate n c) = List.replicate n c := bare_eq.mpr fun z => by
      have := List.mem_of_getElem? z
      exact h4 (List.eq_of_mem_replicate this).symm
    rw [e, SP_no (no_rep h3)]
    exact .head _
theorem due_b2 {n c : Nat} (hn : 60 < n) (h1 : 32 ≠ c) (h2 : 58 ≠ c) (h3 : 47 ≠ c) : dueOf ([48, 58, 49, 47] ++ List.replicate n c) = .inr txT0 := by
  refine due_kno (w := [48, 58, 49, 47] ++ List.replicate n c) ?_ (kOf_part (p := [49] ++ 47 :: List.replicate n c) ?_ (fOf_nat (p := List.replicate n c) ?_ (nat_long (by rw [List.length_replicate]; exact hn))))
  · rw [SP_no]
    · exact .head _
    · intro z
      rcases List.mem_append.mp z with z | z
      · simp at z
      · exact no_rep h1 z
  · rw [show [48, 58, 49, 47] ++ List.replicate n c = [48] ++ 58 :: ([49] ++ 47 :: List.replicate n c) from rfl, SP_app (by simp), SP_no]
    · exact .tail _ (.head _)
    · intro z
      simp only [List.cons_append, List.nil_append, List.mem_cons] at z
      rcases z with z | z | z
      · cases z
      · cases z
      · exact no_rep h2 z
  · have e : bare ([49] ++ 47 :: List.replicate n c) = [49] ++ 47 :: List.replicate n c := bare_eq.mpr (by simp)
    rw [e, SP_app (by simp), SP_no (no_rep h3)]
    exact .tail _ (.head _)
theorem due_b3 {n c : Nat} (hn : 60 < n) (h1 : 32 ≠ c) (h2 : 58 ≠ c) (h3 : 47 ≠ c) : dueOf ([48, 58, 45, 49, 47] ++ List.replicate n c) = .inr txT0 := by
  refine due_kno (w := [48, 58, 45, 49, 47] ++ List.replicate n c) ?_ (kOf_part (p := 45 :: ([49] ++ 47 :: List.replicate n c)) ?_ (fOf_nat (p := List.replicate n c) ?_ (nat_long (by rw [List.length_replicate]; exact hn))))
  · rw [SP_no]
    · exact .head _
    · intro z
      rcases List.mem_append.mp z with z | z
      · simp at z
      · exact no_rep h1 z
  · rw [show [48, 58, 45, 49, 47] ++ List.replicate n c = [48] ++ 58 :: (45 :: ([49] ++ 47 :: List.replicate n c)) from rfl, SP_app (by simp), SP_no]
    · exact .tail _ (.head _)
    · intro z
      simp only [List.cons_append, List.nil_append, List.mem_cons] at z
      rcases z with z | z | z | z
      · cases z
      · cases z
      · cases z
      · exact no_rep h2 z
  · have e : bare (45 :: ([49] ++ 47 :: List.replicate n c)) = [49] ++ 47 :: List.replicate n c := rfl
    rw [e, SP_app (by simp), SP_no (no_rep h3)]
    exact .tail _ (.head _)
def rOdd : Rp (Sum Ob (List Nat)) := rSum rOb rTx
instance : Mono rOdd := (inferInstance : Mono (rSum rOb rTx))
def oddOk : Sum Ob (List Nat) → Prop
  | .inl o => kitB o.ty "str" = some false
  | .inr l => l.length ≤ 85000 ∧ dueOf l = .inr txT0
theorem odd_ob {o : Ob} (h : kitB o.ty "str" = some false) : oddOk (.inl o) := h
theorem s_mulTx {c n : Nat} {s : Str} {i : Int} {H : Hp} {Q : VK} (e : s = ⟨#[c]⟩) (ei : i = (n : Int)) (h2 : 2 ≤ n) (hn : n ≤ 50000) (q : Q (.str (SX.S (List.replicate n c))) H) : rMulTx (.str s) (.int i) H Q := ⟨c, n, by rw [e], by rw [ei], h2, hn, q⟩
theorem tx_c0 : Str.ofString ":0" = SX.S [58, 48] := by decide +kernel
theorem tx_01 : Str.ofString "0:1/" = SX.S [48, 58, 49, 47] := by decide +kernel
theorem tx_0m1 : Str.ofString "0:-1/" = SX.S [48, 58, 45, 49, 47] := by decide +kernel
def dS : Sum (List Kn) (List Nat) → PyData
  | .inl ks => DataR.to (rL rKn) ks
  | .inr t => .str (SX.S t)
theorem s_repSum {K : Fg} {M : Ms} {H : Hp} {v : V} {s : Sum (List Kn) (List Nat)} {Q : VK} (h : rSum rKs rTx K M H v s) (f : FitD sizeLine 30 (dS s)) (q : Q (.str (dS s).shown) H) : rRepD K [v] H Q := by
  cases s with
  | inl ks => exact s_repL (A := rKn) h f q
  | inr t =>
    obtain rfl : v = .str (SX.S t) := h
    exact s_repO (M := M) (.str _) f q
theorem s_repSum2 {K : Fg} {M : Ms} {H : Hp} {v : V} {s : Sum (List Kn) (List Nat)} {Q : VK} (h : rSum (rS rKn) rTx K M H v s) (f : FitD sizeLine 30 (dS s)) (q : Q (.str (dS s).shown) H) : rRepD K [v] H Q := by
  refine s_repSum (M := M) (s := s) ?_ f q
  cases s with
  | inl ks => exact rS.l h
  | inr t => exact h
theorem fit_due (l : List Nat) : FitD sizeLine 30 (dS (dueOf l)) := by
  rcases dueOf_or l with ⟨ks, h⟩ | h | h
  · rw [h]
    have hk : ks.length ≤ 41 ∧ ∀ k ∈ ks, D60 k.1 ∧ D60 k.2 := by
      unfold dueOf at h
      split at h
      · cases h
      · rename_i e
        split at h
        · rename_i z
          cases h
          exact ⟨by have := z.2; omega, (ksOf_d60 e).2⟩
        · cases h
    refine (fit_lst (n := 829) (e := 2) (m := 41) ?_ (by rw [List.length_map]; exact hk.1)).mono (Nat.le_trans (show _ ≤ 100000 by decide) (by decide)) (by decide)
    intro x hx
    obtain ⟨k, hk2, rfl⟩ := List.mem_map.mp hx
    obtain ⟨d1, d2⟩ := hk.2 k hk2
    exact (fit_pair (fit_fr (d60_bq d1) (by decide)) (fit_fr (d60_bq d2) (by decide))).mono (by decide) (by decide)
  · rw [h]
    exact ⟨by decide +kernel, by decide +kernel, by decide +kernel, by decide +kernel⟩
  · rw [h]
    exact ⟨by decide +kernel, by decide +kernel, by decide +kernel, by decide +kernel⟩
section
variable {P : Program} {w : World} {K : PySem.W.Frag} {mg : Str → Option Value} {base : Heap}
theorem ok_law {C : Addr} {f : Addr} {oc kV doc pm ct cdv : Value} {od an : Option Addr} {osl : Array (Option Value)} (lk : K.lookup f = some ⟨oc, od, .func (PySem.W.fnOf "law" "law" (defArgs s_law) (defBody s_law) (defScope s_law) .none kV doc pm an cdv ct), osl⟩) (cc : PySem.W.codeIn K cdv "law" = true) (G__law_begun : Cal P w K mg base CX0 1 "_law_begun" ["script"] [] (sp_begun K)) (G__law_draw : Cal P w K mg base CX0 2 "_law_draw" ["state", "size"] [] (sp_takeS K)) (G__law_due : Cal P w K mg base CX0 4 "_law_due" ["text"] [] (sp_due K)) (G__law_said : Cal P w K mg base CX0 8 "_law_said" ["text"] [] (sp_said C K)) (G__law_spoilt_text : Cal P w K mg base CX0 4 "_law_spoilt_text" ["state", "text"] [] (sp_spoil K)) (G__law_whole_text : Cal P w K mg base CX0 6 "_law_whole_text" ["state"] [] (sp_wholeT K)) (z_range : mg "range" = none) (z_repr : mg "repr" = none) : RunG P w K mg base 9 f (PySem.W.fnOf "law" "law" (defArgs s_law) (defBody s_law) (defScope s_law) .none kV doc pm an cdv ct) "script" (sp_law K) := by
  refine Fun.okG (k := 8) lk cc sc_law (fun s H vs Q E hr h => ?_)
  · obtain ⟨a, ns, rfl, hs, hl, q⟩ := h
    refine ⟨_, (pss_cons (ps_set (i := 1) sc_law.nd rfl (by first | exact Or.inl rfl | exact Or.inr rfl) (pe_cal G__law_begun (hr.mono (by decide)) (by rfl) pass0 (pa_cons (pv 0) pa_nil)))
      (pss_cons (ps_for PassesOwn.never rfl (pi_range1 (by rfl) z_range (pa_cons pe_int pa_nil)) (pg_name (i := 2) sc_law.nd rfl (by first | exact Or.inl rfl | exact Or.inr rfl)) (pss_cons (ps_set (i := 3) sc_law.nd rfl (by first | exact Or.inl rfl | exact Or.inr rfl) (pe_cal G__law_whole_text (hr.mono (by decide)) (by rfl) pass0 (pa_cons (pv 1) pa_nil)))
      (pss_cons (ps_for PassesOwn.never rfl (pi_range1 (by rfl) z_range (pa_cons (pe_cal G__law_draw (hr.mono (by decide)) (by rfl) pass0 (pa_cons (pv 1) (pa_cons pe_int pa_nil))) pa_nil)) (pg_name (i := 4) sc_law.nd rfl (by first | exact Or.inl rfl | exact Or.inr rfl)) (pss_one (ps_set (i := 3) sc_law.nd rfl (by first | exact Or.inl rfl | exact Or.inr rfl) (pe_cal G__law_spoilt_text (hr.mono (by decide)) (by rfl) pass0 (pa_cons (pv 1) (pa_cons (pv 3) pa_nil))))))
      (pss_one (ps_if (pt_cmpR (opNeK K hr.units) (pe_callB (callRepD rfl hr K) (by rfl) z_repr (by decide +kernel) (pa_cons (pe_cal G__law_said (hr.mono (by decide)) (by rfl) pass0 (pa_cons (pv 3) pa_nil)) pa_nil)) (pe_callB (callRepD rfl hr K) (by rfl) z_repr (by decide +kernel) (pa_cons (pe_cal G__law_due (hr.mono (by decide)) (by rfl) pass0 (pa_cons (pv 3) pa_nil)) pa_nil)) (nomark _)) (pss_one (ps_ret pe_bl)) pss_nil)))))
      (pss_cons (ps_set (i := 5) sc_law.nd rfl (by first | exact Or.inl rfl | exact Or.inr rfl) (pe_lst (pa_cons pe_non (pa_cons pe_int (pa_cons pe_bl (pa_cons (pe_lst pa_nil) (pa_cons (pe_tup pa_nil) (pa_cons pe_dnewK (pa_cons (pe_lst (pa_cons pe_str pa_nil)) (pa_cons (pe_tup (pa_cons pe_str pa_nil)) (pa_cons pe_str (pa_cons pe_str (pa_cons pe_str (pa_cons pe_str (pa_cons pe_str (pa_cons pe_str (pa_cons pe_str (pa_cons pe_str pa_nil))))))))))))))))))
      (pss_cons (ps_set (i := 5) sc_law.nd rfl (by first | exact Or.inl rfl | exact Or.inr rfl) (pe_op (opAddK K) (pv 5) (pe_lst (pa_cons pe_str (pa_cons pe_str (pa_cons pe_str (pa_cons pe_str (pa_cons pe_str (pa_cons pe_str (pa_cons pe_str (pa_cons pe_str (pa_cons pe_str (pa_cons (pe_op (opAddTK K) (pe_op op_mulTx pe_str pe_int) pe_str) pa_nil)))))))))))))
      (pss_cons (ps_set (i := 5) sc_law.nd rfl (by first | exact Or.inl rfl | exact Or.inr rfl) (pe_op (opAddK K) (pv 5) (pe_lst (pa_cons (pe_op (opAddTK K) pe_str (pe_op op_mulTx pe_str pe_int)) (pa_cons (pe_op (opAddTK K) (pe_op op_mulTx pe_str pe_int) pe_str) (pa_cons (pe_op (opAddTK K) pe_str (pe_op op_mulTx pe_str pe_int)) pa_nil))))))
      (pss_one (ps_ret (pe_cmpR (opEqK K hr.units) (pe_lc (own := [("text", 3)]) rfl sc_law.nd (piListK K (pv 5)) (blkOk_by (own := [("text", 3)]) (N := ["script", "state", "turn", "text", "change", "odd"]) (sc := defScope s_law) (by decide +kernel)) (fun _ _ _ _ _ => (pg_name (i := 3) sc_law.nd rfl (by first | exact Or.inl rfl | exact Or.inr rfl))) (fun _ _ _ _ _ => (pts_one (pt_cmpR (opNeK K hr.units) (pe_cal G__law_said (hr.mono (by decide)) (by rfl) pass0 (pa_cons (pv 3) pa_nil)) pe_str (nomark _)))) (fun _ _ _ _ _ => (pv 3))) (pe_lst pa_nil) (nomark _))))))))), ?_⟩
    rw [st_law]
    try simp only [cxK, cxK2]

    walk_at "my_go"
    refine c_begun hs hl ?_
    intro d l H1 s1 fd fl D1
    walk_at "my_go"
    refine s_rng (by omega) ?_
    refine forR_by (fun i σ H2 => StAt H2 d l (20000 * i) ∧ ∃ o1 o2 o3 o4, σ = [some (.ref a), some (.ref d), o1, o2, o3, o4]) ⟨D1, _, _, _, _, rfl⟩ ?_ ?_
    · rintro i σ H2 N hi ⟨D2, o1, o2, o3, o4, rfl⟩ hk
      have md : mSt d l d := .inl rfl
      have ml : mSt d l l.1 := .inr (.inl rfl)
      walk_at "my_go"
      refine c_wholeT D2 md ml D2.own (by omega) ?_
      intro t H3 b3 D3 lt low
      walk_at "my_go"
      rename_i r H4 b4 D4 r0 r4
      refine s_rng (by omega) ?_
      refine forR_by (fun j σ H5 => ∃ (t' : List Nat) (o5 : Option V), σ = [some (.ref a), some (.ref d), some (.int (i : Int)), some (.str (SX.S t')), o5, o4] ∧ StAt H5 d l (20000 * i + 10000 + 1 + 4 * j) ∧ t'.length + 1 ≤ 2 ^ j * 10401 ∧ Low t') ⟨t, o3, rfl, D4, by omega, low⟩ ?_ ?_
      · rintro j σ H5 N5 hj ⟨t', o5, rfl, D5, lt5, low5⟩ hk5
        have j3 : 2 ^ j ≤ 2 ^ 2 := Nat.pow_le_pow_right (by decide) (by omega)
        have j4 := Nat.mul_le_mul_right 10401 j3
        walk_at "my_go"
        refine c_spoil (M := mSt d l) D5 md ml D5.own (by omega) rfl (by omega) low5 ?_
        intro w6 t6 H6 b6 D6 hw6 l6 low6
        obtain rfl : w6 = .str (SX.S t6) := hw6
        walk_at "my_go"
        refine hk5 _ _ ⟨t6, _, rfl, D6.le (by omega), by rw [Nat.pow_succ]; omega, low6⟩
      · rintro σ H5 ⟨t', o5, rfl, D5, lt5, low5⟩
        have j3 : 2 ^ r.toNat ≤ 2 ^ 3 := Nat.pow_le_pow_right (by decide) (by omega)
        have j4 := Nat.mul_le_mul_right 10401 j3
        have ft := fit_due t'
        walk_at "my_go"
        refine ⟨mSt d l, _, rfl, D5.own, .inl ⟨t', rfl, by omega, ?_⟩⟩
        intro v6 H6 s6 r6
        walk_at "my_go"
        refine s_repSum r6 ft ?_
        walk_at "my_go"
        have D6 := D5.same s6
        refine c_due (M := mSt d l) rfl (by omega) low5 D6.own ?_
        intro v7 H7 s7 r7
        walk_at "my_go"
        refine s_repSum2 r7 ft ?_
        walk_at "my_go"
        refine s_neSame ?_
        walk_at "my_go"
        exact hk _ _ ⟨(D6.same s7).le (by omega), _, _, _, _, rfl⟩
    · rintro σ H2 ⟨D2, o1, o2, o3, o4, rfl⟩
      have ow2 := D2.own
      generalize mSt d l = M at *
      walk_at "my_go"
      refine s_newLO (K := K) (M := M) (os := []) ow2 (by decide) .nil ?_
      intro p3 H3 s3 _ r3
      have ow3 := ow2.same s3
      walk_at "my_go"
      refine s_newTO (K := K) (M := M) (os := []) ow3 (by decide) .nil ?_
      intro v4 H4 s4 r4
      have ow4 := ow3.same s4
      walk_at "my_go"
      refine fun p5 hp5 => ?_
      have s5 : Same H4 (upd H4 p5 (.dK [])) := Same.upd_new hp5
      have r5 : rOb K M (upd H4 p5 (.dK [])) (.ref p5) .dic := .dic (ow4.fresh hp5) upd_same
      generalize upd H4 p5 (.dK []) = H5 at *
      have ow5 := ow4.same s5
      walk_at "my_go"
      refine s_newLO (K := K) (M := M) (os := [.str]) ow5 (by decide) (.cons (.str _) .nil) ?_
      intro p6 H6 s6 _ r6
      have ow6 := ow5.same s6
      walk_at "my_go"
      refine s_newTO (K := K) (M := M) (os := [.str]) ow6 (by decide) (.cons (.str _) .nil) ?_
      intro v7 H7 s7 r7
      have ow7 := ow6.same s7
      have r6 := Rp.same (R := rOb) s7 r6
      have r5 := Rp.same (R := rOb) (s6.trans s7) r5
      have r4 := Rp.same (R := rOb) (s5.trans (s6.trans s7)) r4
      have r3 := Rp.same (R := rOb) (s4.trans (s5.trans (s6.trans s7))) r3
      walk_at "my_go"
      refine s_newS (A := rOdd) (K := K) (M := M) (as := [.inl .non, .inl (.int 5), .inl (.bl true), .inl (.lst []), .inl (.tup []), .inl .dic, .inl (.lst [.str]), .inl (.tup [.str]), .inr [], .inr [32], .inr [48, 58, 48, 32], .inr [32, 48, 58, 48], .inr [48, 58, 48, 10], .inr [48, 58, 48, 32, 32, 49, 58, 49], .inr [48], .inr [58]]) ow7 (len_ok (by simp)) (.cons OA.non (.cons (OA.int 5) (.cons (OA.bl true) (.cons r3 (.cons r4 (.cons r5 (.cons r6 (.cons r7 (.cons (congrArg V.str (by decide +kernel)) (.cons (congrArg V.str (by decide +kernel)) (.cons (congrArg V.str (by decide +kernel)) (.cons (congrArg V.str (by decide +kernel)) (.cons (congrArg V.str (by decide +kernel)) (.cons (congrArg V.str (by decide +kernel)) (.cons (congrArg V.str (by decide +kernel)) (.cons (congrArg V.str (by decide +kernel)) .nil)))))))))))))))) ?_
      intro v8 H8 s8 r8
      have g8 : ∀ o ∈ ([.inl .non, .inl (.int 5), .inl (.bl true), .inl (.lst []), .inl (.tup []), .inl .dic, .inl (.lst [.str]), .inl (.tup [.str]), .inr [], .inr [32], .inr [48, 58, 48, 32], .inr [32, 48, 58, 48], .inr [48, 58, 48, 10], .inr [48, 58, 48, 32, 32, 49, 58, 49], .inr [48], .inr [58]] : List (Sum Ob (List Nat))), oddOk o := by
        simp only [List.forall_mem_cons]
        refine ⟨odd_ob (by decide +kernel), odd_ob (by decide +kernel), odd_ob (by decide +kernel), odd_ob (by decide +kernel), odd_ob (by decide +kernel), odd_ob (by decide +kernel), odd_ob (by decide +kernel), odd_ob (by decide +kernel), ?_⟩
        refine ⟨⟨by decide, due_no (by decide +kernel)⟩, ⟨by decide, due_no (by decide +kernel)⟩, ⟨by decide, due_no (by decide +kernel)⟩, ⟨by decide, due_no (by decide +kernel)⟩, ⟨by decide, due_no (by decide +kernel)⟩, ⟨by decide, due_no (by decide +kernel)⟩, ⟨by decide, due_no (by decide +kernel)⟩, ⟨by decide, due_no (by decide +kernel)⟩, fun _ h => by cases h⟩
      have l8 : ([.inl .non, .inl (.int 5), .inl (.bl true), .inl (.lst []), .inl (.tup []), .inl .dic, .inl (.lst [.str]), .inl (.tup [.str]), .inr [], .inr [32], .inr [48, 58, 48, 32], .inr [32, 48, 58, 48], .inr [48, 58, 48, 10], .inr [48, 58, 48, 32, 32, 49, 58, 49], .inr [48], .inr [58]] : List (Sum Ob (List Nat))).length = 16 := rfl
      generalize ([.inl .non, .inl (.int 5), .inl (.bl true), .inl (.lst []), .inl (.tup []), .inl .dic, .inl (.lst [.str]), .inl (.tup [.str]), .inr [], .inr [32], .inr [48, 58, 48, 32], .inr [32, 48, 58, 48], .inr [48, 58, 48, 10], .inr [48, 58, 48, 32, 32, 49, 58, 49], .inr [48], .inr [58]] : List (Sum Ob (List Nat))) = os1 at *
      have ow8 := ow7.same s8
      walk_at "my_go"
      refine s_mulTx (c := 57) (n := 61) (by decide +kernel) rfl (by decide) (by decide) ?_
      walk_at "my_go"
      rw [tx_c0]
      refine s_addT (by rw [List.length_replicate]; decide) ?_
      walk_at "my_go"
      refine s_newS (A := rOdd) (K := K) (M := M) (as := [.inr [49, 47, 49, 58, 48], .inr [45, 48, 58, 48], .inr [48, 58, 45, 48], .inr [48, 48, 58, 48], .inr [50, 47, 52, 58, 48], .inr [49, 58, 49, 58, 49], .inr [43, 49, 58, 48], .inr [49, 47, 45, 50, 58, 48], .inr [49, 58, 48, 44, 50, 58, 48], .inr (List.replicate 61 57 ++ [58, 48])]) ow8 (len_ok (by simp)) (.cons (congrArg V.str (by decide +kernel)) (.cons (congrArg V.str (by decide +kernel)) (.cons (congrArg V.str (by decide +kernel)) (.cons (congrArg V.str (by decide +kernel)) (.cons (congrArg V.str (by decide +kernel)) (.cons (congrArg V.str (by decide +kernel)) (.cons (congrArg V.str (by decide +kernel)) (.cons (congrArg V.str (by decide +kernel)) (.cons (congrArg V.str (by decide +kernel)) (.cons rfl .nil)))))))))) ?_
      intro v9 H9 s9 r9
      have g9 : ∀ o ∈ ([.inr [49, 47, 49, 58, 48], .inr [45, 48, 58, 48], .inr [48, 58, 45, 48], .inr [48, 48, 58, 48], .inr [50, 47, 52, 58, 48], .inr [49, 58, 49, 58, 49], .inr [43, 49, 58, 48], .inr [49, 47, 45, 50, 58, 48], .inr [49, 58, 48, 44, 50, 58, 48], .inr (List.replicate 61 57 ++ [58, 48])] : List (Sum Ob (List Nat))), oddOk o := by
        simp only [List.forall_mem_cons]
        refine ⟨⟨by decide, due_no (by decide +kernel)⟩, ⟨by decide, due_no (by decide +kernel)⟩, ⟨by decide, due_no (by decide +kernel)⟩, ⟨by decide, due_no (by decide +kernel)⟩, ⟨by decide, due_no (by decide +kernel)⟩, ⟨by decide, due_no (by decide +kernel)⟩, ⟨by decide, due_no (by decide +kernel)⟩, ⟨by decide, due_no (by decide +kernel)⟩, ⟨by decide, due_no (by decide +kernel)⟩, ⟨by rw [List.length_append, List.length_replicate]; decide, due_b1 (by decide) (by decide) (by decide) (by decide) (by decide)⟩, fun _ h => by cases h⟩
      have l9 : ([.inr [49, 47, 49, 58, 48], .inr [45, 48, 58, 48], .inr [48, 58, 45, 48], .inr [48, 48, 58, 48], .inr [50, 47, 52, 58, 48], .inr [49, 58, 49, 58, 49], .inr [43, 49, 58, 48], .inr [49, 47, 45, 50, 58, 48], .inr [49, 58, 48, 44, 50, 58, 48], .inr (List.replicate 61 57 ++ [58, 48])] : List (Sum Ob (List Nat))).length = 10 := rfl
      generalize ([.inr [49, 47, 49, 58, 48], .inr [45, 48, 58, 48], .inr [48, 58, 45, 48], .inr [48, 48, 58, 48], .inr [50, 47, 52, 58, 48], .inr [49, 58, 49, 58, 49], .inr [43, 49, 58, 48], .inr [49, 47, 45, 50, 58, 48], .inr [49, 58, 48, 44, 50, 58, 48], .inr (List.replicate 61 57 ++ [58, 48])] : List (Sum Ob (List Nat))) = os2 at *
      have ow9 := ow8.same s9
      walk_at "my_go"
      refine s_catS (Rp.same s9 r8) r9 ow9 (by omega) ?_
      intro v10 H10 s10 r10
      have ow10 := ow9.same s10
      walk_at "my_go"
      refine s_mulTx (c := 57) (n := 61) (by decide +kernel) rfl (by decide) (by decide) ?_
      rw [tx_01]
      refine s_addT (by rw [List.length_replicate]; decide) ?_
      walk_at "my_go"
      refine s_mulTx (c := 55) (n := 5000) (by decide +kernel) rfl (by decide) (by decide) ?_
      walk_at "my_go"
      refine s_addT (by rw [List.length_replicate]; decide) ?_
      walk_at "my_go"
      refine s_mulTx (c := 55) (n := 5000) (by decide +kernel) rfl (by decide) (by decide) ?_
      rw [tx_0m1]
      refine s_addT (by rw [List.length_replicate]; decide) ?_
      walk_at "my_go"
      refine s_newS (A := rOdd) (K := K) (M := M) (as := [.inr ([48, 58, 49, 47] ++ List.replicate 61 57), .inr (List.replicate 5000 55 ++ [58, 48]), .inr ([48, 58, 45, 49, 47] ++ List.replicate 5000 55)]) ow10 (len_ok (by simp)) (.cons rfl (.cons rfl (.cons rfl .nil))) ?_
      intro v11 H11 s11 r11
      have g11 : ∀ o ∈ ([.inr ([48, 58, 49, 47] ++ List.replicate 61 57), .inr (List.replicate 5000 55 ++ [58, 48]), .inr ([48, 58, 45, 49, 47] ++ List.replicate 5000 55)] : List (Sum Ob (List Nat))), oddOk o := by
        simp only [List.forall_mem_cons]
        refine ⟨⟨by rw [List.length_append, List.length_replicate]; decide, due_b2 (by decide) (by decide) (by decide) (by decide)⟩, ⟨by rw [List.length_append, List.length_replicate]; decide, due_b1 (by decide) (by decide) (by decide) (by decide) (by decide)⟩, ⟨by rw [List.length_append, List.length_replicate]; decide, due_b3 (by decide) (by decide) (by decide) (by decide)⟩, fun _ h => by cases h⟩
      have l11 : ([.inr ([48, 58, 49, 47] ++ List.replicate 61 57), .inr (List.replicate 5000 55 ++ [58, 48]), .inr ([48, 58, 45, 49, 47] ++ List.replicate 5000 55)] : List (Sum Ob (List Nat))).length = 3 := rfl
      generalize ([.inr ([48, 58, 49, 47] ++ List.replicate 61 57), .inr (List.replicate 5000 55 ++ [58, 48]), .inr ([48, 58, 45, 49, 47] ++ List.replicate 5000 55)] : List (Sum Ob (List Nat))) = os3 at *
      have ow11 := ow10.same s11
      walk_at "my_go"
      refine s_catS (Rp.same s11 r10) r11 ow11 (by rw [List.length_append]; omega) ?_
      intro v12 H12 s12 r12
      have ow12 := ow11.same s12
      have g12 : ∀ o ∈ (os1 ++ os2) ++ os3, oddOk o := fun o ho => (List.mem_append.mp ho).elim (fun h => (List.mem_append.mp h).elim (g8 o) (g9 o)) (g11 o)
      walk_at "my_go"
      refine lc_map (A := rOdd) (B := rInt) (M := M) ((os1 ++ os2) ++ os3) (fun _ => false) (fun _ => 0) r12.l ow12 (by rw [List.length_append, List.length_append]; omega) ?_ ?_
      · rintro i o vq M' H13 Z N hi ht hw2 rq hZ hN
        have ho := g12 o (List.mem_of_getElem? hi)
        walk_at "my_go"
        have fin : ∀ v H14, Same H13 H14 → v = V.str (SX.S txT0) → rNeA K v (V.str (Str.ofString "text0")) H14 (fun x H' => ∃ k, x = V.bl k ∧ if k = true then tVar 3 [some (V.ref a), some (V.ref d), o1, some vq, o3, some v12] H' Z else N H') := fun v H14 s14 ev => by
          subst ev
          rw [tx_t0]
          refine s_neSame ?_
          refine ⟨_, rfl, ?_⟩
          rw [if_neg Bool.false_ne_true]
          exact hN rfl _ s14
        cases o with
        | inl o =>
          refine ⟨M', vq, rfl, hw2, .inr ⟨o, rq, ho, ?_⟩⟩
          intro H14 s14
          exact fin _ _ s14 rfl
        | inr l5 =>
          refine ⟨M', vq, rfl, hw2, .inl ⟨l5, rq, ho.1, ?_⟩⟩
          intro v14 H14 s14 r14
          rw [ho.2] at r14
          exact fin _ _ s14 r14
      intro D13 vs13 H13 f13 s13 e13 p13 r13
      have e : ((((os1 ++ os2) ++ os3).filter fun _ => false).map fun _ => (0 : Int)) = [] := by simp
      rw [e] at r13
      have ow13 := ow12.same s13
      walk_at "my_go"
      refine s_newL (A := rInt) (K := K) (M := M) (as := []) ow13 (by decide) .nil ?_
      intro v14 H14 s14 r14
      refine s_eqD (A := rL rInt) (Rp.same s14 r13) r14 ?_
      rw [decide_eq_true rfl]
      exact q _
end
theorem kit_self {K : PySem.W.Frag} {C : Addr} : PySem.W.kitOne K (.ref C) (.ref C) = some true := by
  unfold PySem.W.kitOne
  simp
theorem exm_own {K : Fg} {S : Addr} (h1 : PySem.W.subIn K (.ref S) (.type "BaseException") = some true) (h2 : PySem.W.isClsIn K S = true) (h3 : PySem.W.typeIn K (.ref S) = some (.type "type")) (h4 : PySem.W.subIn K (.ref S) (.ref S) = some true) :
    PySem.W.exmOne K (.ref S) (.ref S) = some true := by
  have h5 : (PySem.W.clsIn K S).isSome = true := h2
  unfold PySem.W.exmOne PySem.W.kitCls
  simp [h1, h3, h4, h5]
theorem all_mk {l : PySem.W.OpenLaw} {w : World} {K : PySem.W.Frag} {h : Heap} {mg : Str → Option Value} {fa : Addr} (X : K.In h) (G : h.Ns mainGlobals mg) (hfa : mg "law" = some (.ref fa))
    {C C_NoTable C_NoText C_NoText_init C_TrackError NNI T17 ccNI cdNI f1 f10 f11 f12 f13 f14 f15 f16 f17 f18 f19 f2 f20 f21 f22 f23 f24 f25 f26 f27 f28 f29 f3 f30 f31 f32 f33 f34 f35 f36 f37 f4 f5 f6 f7 f8 f9 zZ : Addr}
    {abNI : Bool}
    {an1 an10 an11 an12 an13 an14 an15 an16 an17 an18 an19 an2 an20 an21 an22 an23 an24 an25 an26 an27 an28 an29 an3 an30 an31 an32 an33 an34 an35 an36 an37 an4 an5 an6 an7 an8 an9 anNI cddNI cldNI dNI dT17 dZ ddNI od1 od10 od11 od12 od13 od14 od15 od16 od17 od18 od19 od2 od20 od21 od22 od23 od24 od25 od26 od27 od28 od29 od3 od30 od31 od32 od33 od34 od35 od36 od37 od4 od5 od6 od7 od8 od9 : Option Addr}
    {bmNI bsNI subNI : List Value}
    {cclNI cd1 cd10 cd11 cd12 cd13 cd14 cd15 cd16 cd17 cd18 cd19 cd2 cd20 cd21 cd22 cd23 cd24 cd25 cd26 cd27 cd28 cd29 cd3 cd30 cd31 cd32 cd33 cd34 cd35 cd36 cd37 cd4 cd5 cd6 cd7 cd8 cd9 clNI ct1 ct10 ct11 ct12 ct13 ct14 ct15 ct16 ct17 ct18 ct19 ct2 ct20 ct21 ct22 ct23 ct24 ct25 ct26 ct27 ct28 ct29 ct3 ct30 ct31 ct32 ct33 ct34 ct35 ct36 ct37 ct4 ct5 ct6 ct7 ct8 ct9 ctNI dc1 dc10 dc11 dc12 dc13 dc14 dc15 dc16 dc17 dc18 dc19 dc2 dc20 dc21 dc22 dc23 dc24 dc25 dc26 dc27 dc28 dc29 dc3 dc30 dc31 dc32 dc33 dc34 dc35 dc36 dc37 dc4 dc5 dc6 dc7 dc8 dc9 docNI kNI kV1 kV10 kV11 kV12 kV13 kV14 kV15 kV16 kV17 kV18 kV19 kV2 kV20 kV21 kV22 kV23 kV24 kV25 kV26 kV27 kV28 kV29 kV3 kV30 kV31 kV32 kV33 kV34 kV35 kV36 kV37 kV4 kV5 kV6 kV7 kV8 kV9 oNI oT17 oZ oc1 oc10 oc11 oc12 oc13 oc14 oc15 oc16 oc17 oc18 oc19 oc2 oc20 oc21 oc22 oc23 oc24 oc25 oc26 oc27 oc28 oc29 oc3 oc30 oc31 oc32 oc33 oc34 oc35 oc36 oc37 oc4 oc5 oc6 oc7 oc8 oc9 pm1 pm10 pm11 pm12 pm13 pm14 pm15 pm16 pm17 pm18 pm19 pm2 pm20 pm21 pm22 pm23 pm24 pm25 pm26 pm27 pm28 pm29 pm3 pm30 pm31 pm32 pm33 pm34 pm35 pm36 pm37 pm4 pm5 pm6 pm7 pm8 pm9 pmNI : Value}
    {ccsNI cslNI sT17 sZ sl1 sl10 sl11 sl12 sl13 sl14 sl15 sl16 sl17 sl18 sl19 sl2 sl20 sl21 sl22 sl23 sl24 sl25 sl26 sl27 sl28 sl29 sl3 sl30 sl31 sl32 sl33 sl34 sl35 sl36 sl37 sl4 sl5 sl6 sl7 sl8 sl9 slNI : Array (Option Value)}
    {cdDNI : ClassData}
    {colNI : Option Bool}
    {fileNI nmNI qNI : Str}
    {k0NI k1NI k2NI k3NI k5NI : Option Value}
    {nT17 nZ : Nat}
    {snNI : List Str}
    {tM tZ0 tZ1 tc_DIGITS tc_MOST_DIGITS tfNI tk17_0 : Tok}
    {vsNI : Array Value}
    (gE_NoTable : PySem.W.nsIn K mainGlobals "NoTable" = some (some (.ref C_NoTable)))
    (xE_NoTable : PySem.W.excIn K C_NoTable [.type "ValueError", .type "Exception", .type "BaseException", .type "object"] "ValueError.__new__" = true)
    (kE_NoTable : PySem.W.keepIn K (.ref C_NoTable) = true)
    (bE_NoTable : PySem.W.subIn K (.ref C_NoTable) (.type "BaseException") = some true)
    (tE_NoTable : PySem.W.typeIn K (.ref C_NoTable) = some (.type "type"))
    (iE_NoTable : PySem.W.isClsIn K C_NoTable = true)
    (sE_NoTable : PySem.W.subIn K (.ref C_NoTable) (.ref C_NoTable) = some true)
    (gE_NoText : PySem.W.nsIn K mainGlobals "NoText" = some (some (.ref C_NoText)))
    (gE_TrackError : PySem.W.nsIn K mainGlobals "TrackError" = some (some (.ref C_TrackError)))
    (nI_NoText : PySem.W.findIn K (.ref C_NoText) "__init__" = some (some (.ref C_NoText_init)))
    (nT_NoText : PySem.W.typeIn K (.ref C_NoText_init) = some (.type "function"))
    (nL_NoText : K.lookup C_NoText_init = some ⟨oNI, dNI, .func (PySem.W.ksFn "__init__" "NoText.__init__" (defArgs s_NoTextI) (defBody s_NoTextI) (defScope s_NoTextI) .none kNI docNI pmNI anNI (.ref cdNI) ctNI ccNI), slNI⟩)
    (nC_NoText : PySem.W.codeIn K (.ref cdNI) "NoText.__init__" = true)
    (nD_NoText : K.lookup cdNI = some ⟨cclNI, cddNI, .fields vsNI, ccsNI⟩)
    (nV_NoText : vsNI[2]? = some (.str fileNI tfNI))
    (nF_NoText : ((l.prog.main.file : Str) == fileNI) = true)
    (nCe_NoText : K.lookup ccNI = some ⟨clNI, cldNI, .cell (some (.ref C_NoText)), cslNI⟩)
    (nCl_NoText : PySem.W.clsIn K C_NoText = some cdDNI)
    (nSe_NoText : PySem.W.mroIn K C_NoText (.ref C_NoText) = some true)
    (nSu_NoText : PySem.W.nsIn K mainGlobals "super" = some none)
    (nTo_NoText : (l.prog.main.scope.names.lookup ("super" : Str)).isSome = false)
    (nKs_NoText : PySem.W.ks_superIn K C_NoText C_NoText "__init__" = some (some (.builtin "ValueError.__init__")))
    (nVE_NoText : PySem.W.subIn K (.ref C_NoText) (.type "ValueError") = some true)
    (nTp_NoText : PySem.W.nsIn K cStatics "thirdparty.any" = some none)
    (nX_NoText : PySem.W.excInitIn K C_NoText [.type "ValueError", .type "Exception", .type "BaseException", .type "object"] "ValueError.__new__" = true)
    (nLk_NoText : K.lookup C_NoText = some (excClassObj nmNI qNI C_NoText NNI bsNI bmNI true snNI subNI abNI colNI ddNI k0NI k1NI k2NI k3NI k5NI "ValueError.__new__"))
    (nBm_NoText : PySem.HandSPX.refsVE bmNI = true)
    (nSa_NoText : PySem.W.findIn K (.ref C_NoText) "__setattr__" = some (some (.builtin "object.__setattr__")))
    (nBx_NoText : PySem.W.subIn K (.ref C_NoText) (.type "BaseException") = some true)
    (nTy_NoText : PySem.W.typeIn K (.ref C_NoText) = some (.type "type"))
    (nKe_NoText : PySem.W.keepIn K (.ref C_NoText) = true)
    (nRo_NoText : PySem.W.findIn K (.ref C_NoText) "row" = some none)
    (nIs_NoText : PySem.W.isClsIn K C_NoText = true)
    (sB : PySem.W.exmOne K (.ref C_NoTable) (.ref C_TrackError) = some true)
    (sT : PySem.W.exmOne K (.ref C_NoText) (.ref C_TrackError) = some true)
    (kBT : PySem.W.kitOne K (.ref C_NoTable) (.ref C_NoText) = some false)
    (kBB : PySem.W.kitOne K (.ref C_NoTable) (.ref C_NoTable) = some true)
    (kTT : PySem.W.kitOne K (.ref C_NoText) (.ref C_NoText) = some true)
    (kTB : PySem.W.kitOne K (.ref C_NoText) (.ref C_NoTable) = some false)
    (eN_cls : PySem.W.specialIn K (.builtin "object.__class__") "__get__" = some (some (.builtin "getset_descriptor.__get__")))
    (eT_cls : PySem.W.takesIn K (.builtin "object.__class__") = some true)
    (eG_NoText : PySem.W.findIn K (.ref C_NoText) "__getattribute__" = some (some (.builtin "BaseException.__getattribute__")))
    (eK_NoText : PySem.W.findIn K (.ref C_NoText) "__getattr__" = some none)
    (eD_NoText : PySem.W.hasDictIn K C_NoText = true)
    (eA_NoText : PySem.W.findIn K (.ref C_NoText) "__class__" = some (some (.builtin "object.__class__")))
    (eM_NoText : PySem.W.mroIn K C_NoText (.type "object") = some true)
    (eG_NoTable : PySem.W.findIn K (.ref C_NoTable) "__getattribute__" = some (some (.builtin "BaseException.__getattribute__")))
    (eK_NoTable : PySem.W.findIn K (.ref C_NoTable) "__getattr__" = some none)
    (eD_NoTable : PySem.W.hasDictIn K C_NoTable = true)
    (eA_NoTable : PySem.W.findIn K (.ref C_NoTable) "__class__" = some (some (.builtin "object.__class__")))
    (eM_NoTable : PySem.W.mroIn K C_NoTable (.type "object") = some true)
    (aC : PySem.W.nsIn K mainGlobals "Timetable" = some (some (.ref C)))
    (pgC : PySem.W.plainGet K C Str.empty = true)
    (hdC : PySem.W.hasDictIn K C = true)
    (poC : PySem.W.plainOver K C = true)
    (saC : PySem.W.findIn K (.ref C) "__setattr__" = some (some (.builtin "object.__setattr__")))
    (mkC : PySem.W.makesIn K C = true)
    (kcC : PySem.W.keepIn K (.ref C) = true)
    (nKC : PySem.W.findIn K (.ref C) "_knots" = some none)
    (nPC : PySem.W.findIn K (.ref C) "_plain" = some none)
    (caC : PySem.W.findIn K (.ref C) "__class__" = some (some (.builtin "object.__class__")))
    (cnC : PySem.W.specialIn K (.builtin "object.__class__") "__get__" = some (some (.builtin "getset_descriptor.__get__")))
    (ckC : PySem.W.takesIn K (.builtin "object.__class__") = some true)
    (cmC : PySem.W.mroIn K C (.type "object") = some true)
    (rdC : PySem.W.readsIn K C (.type "type") = true)
    (gaC : PySem.W.specialIn K (.ref C) "__getattribute__" = some (some (.builtin "type.__getattribute__")))
    (moC : PySem.W.findCls K (.ref C) (.type "type") "MOST" = some (.val (.int 40 tM)))
    (a1 : PySem.W.nsIn K mainGlobals "_law_begun" = some (some (.ref f1)))
    (l1 : K.lookup f1 = some ⟨oc1, od1, .func (PySem.W.fnOf "_law_begun" "_law_begun" (defArgs s__law_begun) (defBody s__law_begun) (defScope s__law_begun) .none kV1 dc1 pm1 an1 cd1 ct1), sl1⟩)
    (c1 : PySem.W.codeIn K cd1 "_law_begun" = true)
    (k1 : PySem.W.keepIn K (.ref f1) = true)
    (a2 : PySem.W.nsIn K mainGlobals "_law_mixed" = some (some (.ref f2)))
    (l2 : K.lookup f2 = some ⟨oc2, od2, .func (PySem.W.fnOf "_law_mixed" "_law_mixed" (defArgs s__law_mixed) (defBody s__law_mixed) (defScope s__law_mixed) .none kV2 dc2 pm2 an2 cd2 ct2), sl2⟩)
    (c2 : PySem.W.codeIn K cd2 "_law_mixed" = true)
    (k2 : PySem.W.keepIn K (.ref f2) = true)
    (a3 : PySem.W.nsIn K mainGlobals "_law_draw" = some (some (.ref f3)))
    (l3 : K.lookup f3 = some ⟨oc3, od3, .func (PySem.W.fnOf "_law_draw" "_law_draw" (defArgs s__law_draw) (defBody s__law_draw) (defScope s__law_draw) .none kV3 dc3 pm3 an3 cd3 ct3), sl3⟩)
    (c3 : PySem.W.codeIn K cd3 "_law_draw" = true)
    (k3 : PySem.W.keepIn K (.ref f3) = true)
    (a4 : PySem.W.nsIn K mainGlobals "_law_less" = some (some (.ref f4)))
    (l4 : K.lookup f4 = some ⟨oc4, od4, .func (PySem.W.fnOf "_law_less" "_law_less" (defArgs s__law_less) (defBody s__law_less) (defScope s__law_less) .none kV4 dc4 pm4 an4 cd4 ct4), sl4⟩)
    (c4 : PySem.W.codeIn K cd4 "_law_less" = true)
    (k4 : PySem.W.keepIn K (.ref f4) = true)
    (a5 : PySem.W.nsIn K mainGlobals "_law_in_order" = some (some (.ref f5)))
    (l5 : K.lookup f5 = some ⟨oc5, od5, .func (PySem.W.fnOf "_law_in_order" "_law_in_order" (defArgs s__law_in_order) (defBody s__law_in_order) (defScope s__law_in_order) .none kV5 dc5 pm5 an5 cd5 ct5), sl5⟩)
    (c5 : PySem.W.codeIn K cd5 "_law_in_order" = true)
    (k5 : PySem.W.keepIn K (.ref f5) = true)
    (a6 : PySem.W.nsIn K mainGlobals "_law_frac" = some (some (.ref f6)))
    (l6 : K.lookup f6 = some ⟨oc6, od6, .func (PySem.W.fnOf "_law_frac" "_law_frac" (defArgs s__law_frac) (defBody s__law_frac) (defScope s__law_frac) .none kV6 dc6 pm6 an6 cd6 ct6), sl6⟩)
    (c6 : PySem.W.codeIn K cd6 "_law_frac" = true)
    (k6 : PySem.W.keepIn K (.ref f6) = true)
    (a7 : PySem.W.nsIn K mainGlobals "_law_number" = some (some (.ref f7)))
    (l7 : K.lookup f7 = some ⟨oc7, od7, .func (PySem.W.fnOf "_law_number" "_law_number" (defArgs s__law_number) (defBody s__law_number) (defScope s__law_number) .none kV7 dc7 pm7 an7 cd7 ct7), sl7⟩)
    (c7 : PySem.W.codeIn K cd7 "_law_number" = true)
    (k7 : PySem.W.keepIn K (.ref f7) = true)
    (a8 : PySem.W.nsIn K mainGlobals "_law_fraction" = some (some (.ref f8)))
    (l8 : K.lookup f8 = some ⟨oc8, od8, .func (PySem.W.fnOf "_law_fraction" "_law_fraction" (defArgs s__law_fraction) (defBody s__law_fraction) (defScope s__law_fraction) .none kV8 dc8 pm8 an8 cd8 ct8), sl8⟩)
    (c8 : PySem.W.codeIn K cd8 "_law_fraction" = true)
    (k8 : PySem.W.keepIn K (.ref f8) = true)
    (a9 : PySem.W.nsIn K mainGlobals "_law_knots_read" = some (some (.ref f9)))
    (l9 : K.lookup f9 = some ⟨oc9, od9, .func (PySem.W.fnOf "_law_knots_read" "_law_knots_read" (defArgs s__law_knots_read) (defBody s__law_knots_read) (defScope s__law_knots_read) .none kV9 dc9 pm9 an9 cd9 ct9), sl9⟩)
    (c9 : PySem.W.codeIn K cd9 "_law_knots_read" = true)
    (k9 : PySem.W.keepIn K (.ref f9) = true)
    (a10 : PySem.W.nsIn K mainGlobals "_law_due" = some (some (.ref f10)))
    (l10 : K.lookup f10 = some ⟨oc10, od10, .func (PySem.W.fnOf "_law_due" "_law_due" (defArgs s__law_due) (defBody s__law_due) (defScope s__law_due) .none kV10 dc10 pm10 an10 cd10 ct10), sl10⟩)
    (c10 : PySem.W.codeIn K cd10 "_law_due" = true)
    (k10 : PySem.W.keepIn K (.ref f10) = true)
    (a11 : PySem.W.findIn K (.ref C) "knots" = some (some (.ref f11)))
    (i11 : PySem.W.isFn K (.ref f11) = true)
    (l11 : K.lookup f11 = some ⟨oc11, od11, .func (PySem.W.fnOf "knots" "Timetable.knots" (defArgs s_Timetable_knots) (defBody s_Timetable_knots) (defScope s_Timetable_knots) .none kV11 dc11 pm11 an11 cd11 ct11), sl11⟩)
    (c11 : PySem.W.codeIn K cd11 "Timetable.knots" = true)
    (k11 : PySem.W.keepIn K (.ref f11) = true)
    (a12 : PySem.W.nsIn K mainGlobals "is_whole" = some (some (.ref f12)))
    (l12 : K.lookup f12 = some ⟨oc12, od12, .func (PySem.W.fnOf "is_whole" "is_whole" (defArgs s_is_whole) (defBody s_is_whole) (defScope s_is_whole) .none kV12 dc12 pm12 an12 cd12 ct12), sl12⟩)
    (c12 : PySem.W.codeIn K cd12 "is_whole" = true)
    (k12 : PySem.W.keepIn K (.ref f12) = true)
    (a13 : PySem.W.nsIn K mainGlobals "is_fraction" = some (some (.ref f13)))
    (l13 : K.lookup f13 = some ⟨oc13, od13, .func (PySem.W.fnOf "is_fraction" "is_fraction" (defArgs s_is_fraction) (defBody s_is_fraction) (defScope s_is_fraction) .none kV13 dc13 pm13 an13 cd13 ct13), sl13⟩)
    (c13 : PySem.W.codeIn K cd13 "is_fraction" = true)
    (k13 : PySem.W.keepIn K (.ref f13) = true)
    (a14 : PySem.W.nsIn K mainGlobals "is_knot" = some (some (.ref f14)))
    (l14 : K.lookup f14 = some ⟨oc14, od14, .func (PySem.W.fnOf "is_knot" "is_knot" (defArgs s_is_knot) (defBody s_is_knot) (defScope s_is_knot) .none kV14 dc14 pm14 an14 cd14 ct14), sl14⟩)
    (c14 : PySem.W.codeIn K cd14 "is_knot" = true)
    (k14 : PySem.W.keepIn K (.ref f14) = true)
    (a15 : PySem.W.nsIn K mainGlobals "order_of" = some (some (.ref f15)))
    (l15 : K.lookup f15 = some ⟨oc15, od15, .func (PySem.W.fnOf "order_of" "order_of" (defArgs s_order_of) (defBody s_order_of) (defScope s_order_of) .none kV15 dc15 pm15 an15 cd15 ct15), sl15⟩)
    (c15 : PySem.W.codeIn K cd15 "order_of" = true)
    (k15 : PySem.W.keepIn K (.ref f15) = true)
    (a16 : PySem.W.nsIn K mainGlobals "are_knots" = some (some (.ref f16)))
    (l16 : K.lookup f16 = some ⟨oc16, od16, .func (PySem.W.fnOf "are_knots" "are_knots" (defArgs s_are_knots) (defBody s_are_knots) (defScope s_are_knots) .none kV16 dc16 pm16 an16 cd16 ct16), sl16⟩)
    (c16 : PySem.W.codeIn K cd16 "are_knots" = true)
    (k16 : PySem.W.keepIn K (.ref f16) = true)
    (a17 : PySem.W.nsIn K mainGlobals "new_fraction" = some (some (.ref f17)))
    (l17 : K.lookup f17 = some ⟨oc17, od17, .func (PySem.W.fnOf "new_fraction" "new_fraction" (defArgs s_new_fraction) (defBody s_new_fraction) (defScope s_new_fraction) (.ref T17) kV17 dc17 pm17 an17 cd17 ct17), sl17⟩)
    (c17 : PySem.W.codeIn K cd17 "new_fraction" = true)
    (k17 : PySem.W.keepIn K (.ref f17) = true)
    (lT17 : K.lookup T17 = some ⟨oT17, dT17, .seq #[.int 1 tk17_0] nT17, sT17⟩)
    (a18 : PySem.W.nsIn K mainGlobals "rest_of" = some (some (.ref f18)))
    (l18 : K.lookup f18 = some ⟨oc18, od18, .func (PySem.W.fnOf "rest_of" "rest_of" (defArgs s_rest_of) (defBody s_rest_of) (defScope s_rest_of) .none kV18 dc18 pm18 an18 cd18 ct18), sl18⟩)
    (c18 : PySem.W.codeIn K cd18 "rest_of" = true)
    (k18 : PySem.W.keepIn K (.ref f18) = true)
    (a19 : PySem.W.nsIn K mainGlobals "share_of" = some (some (.ref f19)))
    (l19 : K.lookup f19 = some ⟨oc19, od19, .func (PySem.W.fnOf "share_of" "share_of" (defArgs s_share_of) (defBody s_share_of) (defScope s_share_of) .none kV19 dc19 pm19 an19 cd19 ct19), sl19⟩)
    (c19 : PySem.W.codeIn K cd19 "share_of" = true)
    (k19 : PySem.W.keepIn K (.ref f19) = true)
    (a20 : PySem.W.nsIn K mainGlobals "pace_behind" = some (some (.ref f20)))
    (l20 : K.lookup f20 = some ⟨oc20, od20, .func (PySem.W.fnOf "pace_behind" "pace_behind" (defArgs s_pace_behind) (defBody s_pace_behind) (defScope s_pace_behind) .none kV20 dc20 pm20 an20 cd20 ct20), sl20⟩)
    (c20 : PySem.W.codeIn K cd20 "pace_behind" = true)
    (k20 : PySem.W.keepIn K (.ref f20) = true)
    (a21 : PySem.W.nsIn K mainGlobals "plain_knots" = some (some (.ref f21)))
    (l21 : K.lookup f21 = some ⟨oc21, od21, .func (PySem.W.fnOf "plain_knots" "plain_knots" (defArgs s_plain_knots) (defBody s_plain_knots) (defScope s_plain_knots) .none kV21 dc21 pm21 an21 cd21 ct21), sl21⟩)
    (c21 : PySem.W.codeIn K cd21 "plain_knots" = true)
    (k21 : PySem.W.keepIn K (.ref f21) = true)
    (a22 : PySem.W.findIn K (.ref C) "__init__" = some (some (.ref f22)))
    (i22 : PySem.W.isFn K (.ref f22) = true)
    (l22 : K.lookup f22 = some ⟨oc22, od22, .func (PySem.W.fnOf "__init__" "Timetable.__init__" (defArgs s_Timetable___init__) (defBody s_Timetable___init__) (defScope s_Timetable___init__) .none kV22 dc22 pm22 an22 cd22 ct22), sl22⟩)
    (c22 : PySem.W.codeIn K cd22 "Timetable.__init__" = true)
    (k22 : PySem.W.keepIn K (.ref f22) = true)
    (a23 : PySem.W.nsIn K mainGlobals "fraction_text" = some (some (.ref f23)))
    (l23 : K.lookup f23 = some ⟨oc23, od23, .func (PySem.W.fnOf "fraction_text" "fraction_text" (defArgs s_fraction_text) (defBody s_fraction_text) (defScope s_fraction_text) .none kV23 dc23 pm23 an23 cd23 ct23), sl23⟩)
    (c23 : PySem.W.codeIn K cd23 "fraction_text" = true)
    (k23 : PySem.W.keepIn K (.ref f23) = true)
    (a24 : PySem.W.nsIn K mainGlobals "is_natural" = some (some (.ref f24)))
    (l24 : K.lookup f24 = some ⟨oc24, od24, .func (PySem.W.fnOf "is_natural" "is_natural" (defArgs s_is_natural) (defBody s_is_natural) (defScope s_is_natural) .none kV24 dc24 pm24 an24 cd24 ct24), sl24⟩)
    (c24 : PySem.W.codeIn K cd24 "is_natural" = true)
    (k24 : PySem.W.keepIn K (.ref f24) = true)
    (a25 : PySem.W.nsIn K mainGlobals "read_fraction" = some (some (.ref f25)))
    (l25 : K.lookup f25 = some ⟨oc25, od25, .func (PySem.W.fnOf "read_fraction" "read_fraction" (defArgs s_read_fraction) (defBody s_read_fraction) (defScope s_read_fraction) .none kV25 dc25 pm25 an25 cd25 ct25), sl25⟩)
    (c25 : PySem.W.codeIn K cd25 "read_fraction" = true)
    (k25 : PySem.W.keepIn K (.ref f25) = true)
    (a26 : PySem.W.nsIn K mainGlobals "read_knot" = some (some (.ref f26)))
    (l26 : K.lookup f26 = some ⟨oc26, od26, .func (PySem.W.fnOf "read_knot" "read_knot" (defArgs s_read_knot) (defBody s_read_knot) (defScope s_read_knot) .none kV26 dc26 pm26 an26 cd26 ct26), sl26⟩)
    (c26 : PySem.W.codeIn K cd26 "read_knot" = true)
    (k26 : PySem.W.keepIn K (.ref f26) = true)
    (a27 : PySem.W.nsIn K mainGlobals "read_knots" = some (some (.ref f27)))
    (l27 : K.lookup f27 = some ⟨oc27, od27, .func (PySem.W.fnOf "read_knots" "read_knots" (defArgs s_read_knots) (defBody s_read_knots) (defScope s_read_knots) .none kV27 dc27 pm27 an27 cd27 ct27), sl27⟩)
    (c27 : PySem.W.codeIn K cd27 "read_knots" = true)
    (k27 : PySem.W.keepIn K (.ref f27) = true)
    (a28 : PySem.W.nsIn K mainGlobals "read_table" = some (some (.ref f28)))
    (l28 : K.lookup f28 = some ⟨oc28, od28, .func (PySem.W.fnOf "read_table" "read_table" (defArgs s_read_table) (defBody s_read_table) (defScope s_read_table) .none kV28 dc28 pm28 an28 cd28 ct28), sl28⟩)
    (c28 : PySem.W.codeIn K cd28 "read_table" = true)
    (k28 : PySem.W.keepIn K (.ref f28) = true)
    (a29 : PySem.W.nsIn K mainGlobals "_law_said" = some (some (.ref f29)))
    (l29 : K.lookup f29 = some ⟨oc29, od29, .func (PySem.W.fnOf "_law_said" "_law_said" (defArgs s__law_said) (defBody s__law_said) (defScope s__law_said) .none kV29 dc29 pm29 an29 cd29 ct29), sl29⟩)
    (c29 : PySem.W.codeIn K cd29 "_law_said" = true)
    (k29 : PySem.W.keepIn K (.ref f29) = true)
    (a30 : PySem.W.nsIn K mainGlobals "_law_pick" = some (some (.ref f30)))
    (l30 : K.lookup f30 = some ⟨oc30, od30, .func (PySem.W.fnOf "_law_pick" "_law_pick" (defArgs s__law_pick) (defBody s__law_pick) (defScope s__law_pick) .none kV30 dc30 pm30 an30 cd30 ct30), sl30⟩)
    (c30 : PySem.W.codeIn K cd30 "_law_pick" = true)
    (k30 : PySem.W.keepIn K (.ref f30) = true)
    (a31 : PySem.W.nsIn K mainGlobals "_law_spoilt_text" = some (some (.ref f31)))
    (l31 : K.lookup f31 = some ⟨oc31, od31, .func (PySem.W.fnOf "_law_spoilt_text" "_law_spoilt_text" (defArgs s__law_spoilt_text) (defBody s__law_spoilt_text) (defScope s__law_spoilt_text) .none kV31 dc31 pm31 an31 cd31 ct31), sl31⟩)
    (c31 : PySem.W.codeIn K cd31 "_law_spoilt_text" = true)
    (k31 : PySem.W.keepIn K (.ref f31) = true)
    (a32 : PySem.W.nsIn K mainGlobals "_law_long" = some (some (.ref f32)))
    (l32 : K.lookup f32 = some ⟨oc32, od32, .func (PySem.W.fnOf "_law_long" "_law_long" (defArgs s__law_long) (defBody s__law_long) (defScope s__law_long) .none kV32 dc32 pm32 an32 cd32 ct32), sl32⟩)
    (c32 : PySem.W.codeIn K cd32 "_law_long" = true)
    (k32 : PySem.W.keepIn K (.ref f32) = true)
    (a33 : PySem.W.nsIn K mainGlobals "_law_any_fraction" = some (some (.ref f33)))
    (l33 : K.lookup f33 = some ⟨oc33, od33, .func (PySem.W.fnOf "_law_any_fraction" "_law_any_fraction" (defArgs s__law_any_fraction) (defBody s__law_any_fraction) (defScope s__law_any_fraction) .none kV33 dc33 pm33 an33 cd33 ct33), sl33⟩)
    (c33 : PySem.W.codeIn K cd33 "_law_any_fraction" = true)
    (k33 : PySem.W.keepIn K (.ref f33) = true)
    (a34 : PySem.W.nsIn K mainGlobals "_law_fraction_text" = some (some (.ref f34)))
    (l34 : K.lookup f34 = some ⟨oc34, od34, .func (PySem.W.fnOf "_law_fraction_text" "_law_fraction_text" (defArgs s__law_fraction_text) (defBody s__law_fraction_text) (defScope s__law_fraction_text) .none kV34 dc34 pm34 an34 cd34 ct34), sl34⟩)
    (c34 : PySem.W.codeIn K cd34 "_law_fraction_text" = true)
    (k34 : PySem.W.keepIn K (.ref f34) = true)
    (a35 : PySem.W.nsIn K mainGlobals "_law_knot_text" = some (some (.ref f35)))
    (l35 : K.lookup f35 = some ⟨oc35, od35, .func (PySem.W.fnOf "_law_knot_text" "_law_knot_text" (defArgs s__law_knot_text) (defBody s__law_knot_text) (defScope s__law_knot_text) .none kV35 dc35 pm35 an35 cd35 ct35), sl35⟩)
    (c35 : PySem.W.codeIn K cd35 "_law_knot_text" = true)
    (k35 : PySem.W.keepIn K (.ref f35) = true)
    (a36 : PySem.W.nsIn K mainGlobals "_law_whole_text" = some (some (.ref f36)))
    (l36 : K.lookup f36 = some ⟨oc36, od36, .func (PySem.W.fnOf "_law_whole_text" "_law_whole_text" (defArgs s__law_whole_text) (defBody s__law_whole_text) (defScope s__law_whole_text) .none kV36 dc36 pm36 an36 cd36 ct36), sl36⟩)
    (c36 : PySem.W.codeIn K cd36 "_law_whole_text" = true)
    (k36 : PySem.W.keepIn K (.ref f36) = true)
    (a37 : PySem.W.nsIn K mainGlobals "law" = some (some (.ref f37)))
    (l37 : K.lookup f37 = some ⟨oc37, od37, .func (PySem.W.fnOf "law" "law" (defArgs s_law) (defBody s_law) (defScope s_law) .none kV37 dc37 pm37 an37 cd37 ct37), sl37⟩)
    (c37 : PySem.W.codeIn K cd37 "law" = true)
    (k37 : PySem.W.keepIn K (.ref f37) = true)
    (zz_abs : PySem.W.nsIn K mainGlobals "abs" = some none)
    (zz_all : PySem.W.nsIn K mainGlobals "all" = some none)
    (zz_bool : PySem.W.nsIn K mainGlobals "bool" = some none)
    (zz_enumerate : PySem.W.nsIn K mainGlobals "enumerate" = some none)
    (zz_int : PySem.W.nsIn K mainGlobals "int" = some none)
    (zz_isinstance : PySem.W.nsIn K mainGlobals "isinstance" = some none)
    (zz_len : PySem.W.nsIn K mainGlobals "len" = some none)
    (zz_list : PySem.W.nsIn K mainGlobals "list" = some none)
    (zz_max : PySem.W.nsIn K mainGlobals "max" = some none)
    (zz_min : PySem.W.nsIn K mainGlobals "min" = some none)
    (zz_range : PySem.W.nsIn K mainGlobals "range" = some none)
    (zz_repr : PySem.W.nsIn K mainGlobals "repr" = some none)
    (zz_str : PySem.W.nsIn K mainGlobals "str" = some none)
    (zz_tuple : PySem.W.nsIn K mainGlobals "tuple" = some none)
    (mm_DIGITS : PySem.W.nsIn K mainGlobals "DIGITS" = some (some (.str "0123456789" tc_DIGITS)))
    (mm_MOST_DIGITS : PySem.W.nsIn K mainGlobals "MOST_DIGITS" = some (some (.int 60 tc_MOST_DIGITS)))
    (mm_ZERO : PySem.W.nsIn K mainGlobals "ZERO" = some (some (.ref zZ)))
    (lZ : K.lookup zZ = some ⟨oZ, dZ, .seq #[.int 0 tZ0, .int 1 tZ1] nZ, sZ⟩)
    (cZ : oZ = .type "tuple")
    (mm_gcd : PySem.W.nsIn K mainGlobals "gcd" = some (some (.builtin "math.gcd"))) : LawG l w K 9 63 "script" mg fa h := by
  have e := hfa.symm.trans (PySem.W.mg_of X G a37)
  cases e
  have z_abs := PySem.W.mg_none_of X G zz_abs
  have z_all := PySem.W.mg_none_of X G zz_all
  have z_bool := PySem.W.mg_none_of X G zz_bool
  have z_enumerate := PySem.W.mg_none_of X G zz_enumerate
  have z_int := PySem.W.mg_none_of X G zz_int
  have z_isinstance := PySem.W.mg_none_of X G zz_isinstance
  have z_len := PySem.W.mg_none_of X G zz_len
  have z_list := PySem.W.mg_none_of X G zz_list
  have z_max := PySem.W.mg_none_of X G zz_max
  have z_min := PySem.W.mg_none_of X G zz_min
  have z_range := PySem.W.mg_none_of X G zz_range
  have z_repr := PySem.W.mg_none_of X G zz_repr
  have z_str := PySem.W.mg_none_of X G zz_str
  have z_tuple := PySem.W.mg_none_of X G zz_tuple
  have m_DIGITS := PySem.W.mg_of X G mm_DIGITS
  have u_DIGITS : CstV mg "DIGITS" (.str "0123456789") := ⟨_, m_DIGITS, _, rfl⟩
  have m_MOST_DIGITS := PySem.W.mg_of X G mm_MOST_DIGITS
  have u_MOST_DIGITS : CstV mg "MOST_DIGITS" (.int 60) := ⟨_, m_MOST_DIGITS, _, rfl⟩
  have m_ZERO := PySem.W.mg_of X G mm_ZERO
  have u_ZERO : CstFr K mg "ZERO" 0 := ⟨zZ, m_ZERO, fun M H => cst_fr (q := 0) lZ cZ⟩
  have m_gcd := PySem.W.mg_of X G mm_gcd
  have TC : TtC K mg C := ⟨⟨pgC, hdC, poC, saC⟩, nKC, nPC, PySem.W.mg_of X G aC, caC, cnC, ckC, cmC, kit_self, ⟨.type "type", tM, ⟨rdC, gaC⟩, ⟨moC, ⟨tM, rfl⟩⟩⟩⟩
  have x_NoTable : ExC K mg "NoTable" C_NoTable := ⟨PySem.W.mg_of X G gE_NoTable, xE_NoTable, kE_NoTable, bE_NoTable, tE_NoTable, exm_own bE_NoTable iE_NoTable tE_NoTable sE_NoTable⟩
  have m_TrackError := PySem.W.mg_of X G gE_TrackError
  have eC_NoText : ExcC K C_NoText := ⟨eG_NoText, eK_NoText, nBx_NoText, eD_NoText, eA_NoText, eN_cls, eT_cls, eM_NoText⟩
  have eC_NoTable : ExcC K C_NoTable := ⟨eG_NoTable, eK_NoTable, bE_NoTable, eD_NoTable, eA_NoTable, eN_cls, eT_cls, eM_NoTable⟩
  have oex_NoText : OexC K C_NoText := ⟨⟨nmNI, qNI, NNI, bsNI, bmNI, snNI, subNI, abNI, colNI, ddNI, k0NI, k1NI, k2NI, k3NI, k5NI, nLk_NoText, nBm_NoText⟩, nSa_NoText, nBx_NoText, nTy_NoText, nKe_NoText⟩
  have N_NoText : ∀ base : Heap, (∀ p ∈ ([] : List (Addr × Addr)), LamX.TabB base mg p.1 p.2) → NtC l.prog w K mg base "NoText" C_NoText C_NoText_init := fun base hb => ⟨PySem.W.mg_of X G gE_NoText, oex_NoText, nI_NoText, nT_NoText, ⟨_, fn_superInit (ar := (defArgs s_NoTextI).args.head!) rfl nL_NoText nC_NoText rfl rfl rfl rfl (by decide) rfl rfl rfl rfl rfl nD_NoText nV_NoText nF_NoText nCe_NoText nCl_NoText nSe_NoText nSu_NoText nTo_NoText nKs_NoText nVE_NoText nTp_NoText nX_NoText oex_NoText nRo_NoText (fun L => ⟨rfl, rfl, rfl, _, rfl⟩), Binds.all fun us hl => match us, hl with | [_, _], _ => rfl⟩, eC_NoText, nRo_NoText⟩
  have F1 := fun_mk (st := s__law_begun) l1 c1 k1
  have b1 := F1.binds (ps := ["script"]) fun _ _ _ _ _ _ us hl => match us, hl with | [_], _ => rfl
  have F2 := fun_mk (st := s__law_mixed) l2 c2 k2
  have b2 := F2.binds (ps := ["state"]) fun _ _ _ _ _ _ us hl => match us, hl with | [_], _ => rfl
  have F3 := fun_mk (st := s__law_draw) l3 c3 k3
  have b3 := F3.binds (ps := ["state", "size"]) fun _ _ _ _ _ _ us hl => match us, hl with | [_, _], _ => rfl
  have F4 := fun_mk (st := s__law_less) l4 c4 k4
  have b4 := F4.binds (ps := ["a", "b"]) fun _ _ _ _ _ _ us hl => match us, hl with | [_, _], _ => rfl
  have F5 := fun_mk (st := s__law_in_order) l5 c5 k5
  have b5 := F5.binds (ps := ["times"]) fun _ _ _ _ _ _ us hl => match us, hl with | [_], _ => rfl
  have F6 := fun_mk (st := s__law_frac) l6 c6 k6
  have b6 := F6.binds (ps := ["n", "d"]) fun _ _ _ _ _ _ us hl => match us, hl with | [_, _], _ => rfl
  have F7 := fun_mk (st := s__law_number) l7 c7 k7
  have b7 := F7.binds (ps := ["text"]) fun _ _ _ _ _ _ us hl => match us, hl with | [_], _ => rfl
  have F8 := fun_mk (st := s__law_fraction) l8 c8 k8
  have b8 := F8.binds (ps := ["text"]) fun _ _ _ _ _ _ us hl => match us, hl with | [_], _ => rfl
  have F9 := fun_mk (st := s__law_knots_read) l9 c9 k9
  have b9 := F9.binds (ps := ["words"]) fun _ _ _ _ _ _ us hl => match us, hl with | [_], _ => rfl
  have F10 := fun_mk (st := s__law_due) l10 c10 k10
  have b10 := F10.binds (ps := ["text"]) fun _ _ _ _ _ _ us hl => match us, hl with | [_], _ => rfl
  have F11 := fun_mk (st := s_Timetable_knots) l11 c11 k11
  have b11 := F11.binds (ps := ["self"]) fun _ _ _ _ _ _ us hl => match us, hl with | [_], _ => rfl
  have F12 := fun_mk (st := s_is_whole) l12 c12 k12
  have b12 := F12.binds (ps := ["value"]) fun _ _ _ _ _ _ us hl => match us, hl with | [_], _ => rfl
  have F13 := fun_mk (st := s_is_fraction) l13 c13 k13
  have b13 := F13.binds (ps := ["value"]) fun _ _ _ _ _ _ us hl => match us, hl with | [_], _ => rfl
  have F14 := fun_mk (st := s_is_knot) l14 c14 k14
  have b14 := F14.binds (ps := ["value"]) fun _ _ _ _ _ _ us hl => match us, hl with | [_], _ => rfl
  have F15 := fun_mk (st := s_order_of) l15 c15 k15
  have b15 := F15.binds (ps := ["a", "b"]) fun _ _ _ _ _ _ us hl => match us, hl with | [_, _], _ => rfl
  have F16 := fun_mk (st := s_are_knots) l16 c16 k16
  have b16 := F16.binds (ps := ["value"]) fun _ _ _ _ _ _ us hl => match us, hl with | [_], _ => rfl
  have F17 : FunD K "new_fraction" "new_fraction" (defArgs s_new_fraction) (defBody s_new_fraction) (defScope s_new_fraction) [.int 1] [] f17 (PySem.W.fnOf "new_fraction" "new_fraction" (defArgs s_new_fraction) (defBody s_new_fraction) (defScope s_new_fraction) (.ref T17) kV17 dc17 pm17 an17 cd17 ct17) := ⟨⟨_, _, _, _, _, _, _, _, _, _, rfl, l17, c17, .inr ⟨by simp, T17, _, [.int 1 tk17_0], nT17, rfl, lT17, rfl, (.cons ⟨tk17_0, rfl⟩ .nil)⟩, .inl rfl⟩, k17⟩
  obtain ⟨ds17_0, vl17_0, b17_0⟩ := F17.binds1 (ps := ["n", "d"]) 2 1 (by simp) rfl fun T kV doc pm an cdv ct us its h1 h2 => match us, its, h1, h2 with | [_, _], [_], _, _ => ⟨_, rfl, rfl⟩
  obtain ⟨ds17_1, vl17_1, b17_1⟩ := F17.binds1 (ps := ["n", "d"]) 1 0 (by simp) rfl fun T kV doc pm an cdv ct us its h1 h2 => match us, its, h1, h2 with | [_], [_], _, _ => ⟨_, rfl, rfl⟩
  have F18 := fun_mk (st := s_rest_of) l18 c18 k18
  have b18 := F18.binds (ps := ["a", "b"]) fun _ _ _ _ _ _ us hl => match us, hl with | [_, _], _ => rfl
  have F19 := fun_mk (st := s_share_of) l19 c19 k19
  have b19 := F19.binds (ps := ["a", "b"]) fun _ _ _ _ _ _ us hl => match us, hl with | [_, _], _ => rfl
  have F20 := fun_mk (st := s_pace_behind) l20 c20 k20
  have b20 := F20.binds (ps := ["knots", "k"]) fun _ _ _ _ _ _ us hl => match us, hl with | [_, _], _ => rfl
  have F21 := fun_mk (st := s_plain_knots) l21 c21 k21
  have b21 := F21.binds (ps := ["knots"]) fun _ _ _ _ _ _ us hl => match us, hl with | [_], _ => rfl
  have F22 := fun_mk (st := s_Timetable___init__) l22 c22 k22
  have b22 := F22.binds (ps := ["self", "knots"]) fun _ _ _ _ _ _ us hl => match us, hl with | [_, _], _ => rfl
  have F23 := fun_mk (st := s_fraction_text) l23 c23 k23
  have b23 := F23.binds (ps := ["a"]) fun _ _ _ _ _ _ us hl => match us, hl with | [_], _ => rfl
  have F24 := fun_mk (st := s_is_natural) l24 c24 k24
  have b24 := F24.binds (ps := ["word"]) fun _ _ _ _ _ _ us hl => match us, hl with | [_], _ => rfl
  have F25 := fun_mk (st := s_read_fraction) l25 c25 k25
  have b25 := F25.binds (ps := ["word"]) fun _ _ _ _ _ _ us hl => match us, hl with | [_], _ => rfl
  have F26 := fun_mk (st := s_read_knot) l26 c26 k26
  have b26 := F26.binds (ps := ["word"]) fun _ _ _ _ _ _ us hl => match us, hl with | [_], _ => rfl
  have F27 := fun_mk (st := s_read_knots) l27 c27 k27
  have b27 := F27.binds (ps := ["words"]) fun _ _ _ _ _ _ us hl => match us, hl with | [_], _ => rfl
  have F28 := fun_mk (st := s_read_table) l28 c28 k28
  have b28 := F28.binds (ps := ["text"]) fun _ _ _ _ _ _ us hl => match us, hl with | [_], _ => rfl
  have F29 := fun_mk (st := s__law_said) l29 c29 k29
  have b29 := F29.binds (ps := ["text"]) fun _ _ _ _ _ _ us hl => match us, hl with | [_], _ => rfl
  have F30 := fun_mk (st := s__law_pick) l30 c30 k30
  have b30 := F30.binds (ps := ["state", "items"]) fun _ _ _ _ _ _ us hl => match us, hl with | [_, _], _ => rfl
  have F31 := fun_mk (st := s__law_spoilt_text) l31 c31 k31
  have b31 := F31.binds (ps := ["state", "text"]) fun _ _ _ _ _ _ us hl => match us, hl with | [_, _], _ => rfl
  have F32 := fun_mk (st := s__law_long) l32 c32 k32
  have b32 := F32.binds (ps := ["state"]) fun _ _ _ _ _ _ us hl => match us, hl with | [_], _ => rfl
  have F33 := fun_mk (st := s__law_any_fraction) l33 c33 k33
  have b33 := F33.binds (ps := ["state"]) fun _ _ _ _ _ _ us hl => match us, hl with | [_], _ => rfl
  have F34 := fun_mk (st := s__law_fraction_text) l34 c34 k34
  have b34 := F34.binds (ps := ["x"]) fun _ _ _ _ _ _ us hl => match us, hl with | [_], _ => rfl
  have F35 := fun_mk (st := s__law_knot_text) l35 c35 k35
  have b35 := F35.binds (ps := ["knot"]) fun _ _ _ _ _ _ us hl => match us, hl with | [_], _ => rfl
  have F36 := fun_mk (st := s__law_whole_text) l36 c36 k36
  have b36 := F36.binds (ps := ["state"]) fun _ _ _ _ _ _ us hl => match us, hl with | [_], _ => rfl
  have F37 := fun_mk (st := s_law) l37 c37 k37
  have b37 := F37.binds (ps := ["script"]) fun _ _ _ _ _ _ us hl => match us, hl with | [_], _ => rfl
  have O1 : ∀ base : Heap, (∀ p ∈ ([] : List (Addr × Addr)), LamX.TabB base mg p.1 p.2) → FnOk l.prog w K mg base CX0 1 f1 _ ["script"] (sp_begun K) := fun base hb => ok__law_begun F1 z_abs
  have G__law_begun : ∀ base : Heap, (∀ p ∈ ([] : List (Addr × Addr)), LamX.TabB base mg p.1 p.2) → Cal l.prog w K mg base CX0 1 "_law_begun" ["script"] [] (sp_begun K) := fun base hb => .mk' (O1 base hb) (PySem.W.mg_of X G a1) k1 b1
  have O2 : ∀ base : Heap, (∀ p ∈ ([] : List (Addr × Addr)), LamX.TabB base mg p.1 p.2) → FnOk l.prog w K mg base CX0 1 f2 _ ["state"] (sp_mixed K) := fun base hb => ok__law_mixed F2 
  have G__law_mixed : ∀ base : Heap, (∀ p ∈ ([] : List (Addr × Addr)), LamX.TabB base mg p.1 p.2) → Cal l.prog w K mg base CX0 1 "_law_mixed" ["state"] [] (sp_mixed K) := fun base hb => .mk' (O2 base hb) (PySem.W.mg_of X G a2) k2 b2
  have O3 : ∀ base : Heap, (∀ p ∈ ([] : List (Addr × Addr)), LamX.TabB base mg p.1 p.2) → FnOk l.prog w K mg base CX0 2 f3 _ ["state", "size"] (sp_takeS K) := fun base hb => ok__law_draw F3 (G__law_mixed base hb)
  have G__law_draw : ∀ base : Heap, (∀ p ∈ ([] : List (Addr × Addr)), LamX.TabB base mg p.1 p.2) → Cal l.prog w K mg base CX0 2 "_law_draw" ["state", "size"] [] (sp_takeS K) := fun base hb => .mk' (O3 base hb) (PySem.W.mg_of X G a3) k3 b3
  have O4 : ∀ base : Heap, (∀ p ∈ ([] : List (Addr × Addr)), LamX.TabB base mg p.1 p.2) → FnOk l.prog w K mg base CX0 1 f4 _ ["a", "b"] (sp_less K) := fun base hb => ok__law_less F4 
  have G__law_less : ∀ base : Heap, (∀ p ∈ ([] : List (Addr × Addr)), LamX.TabB base mg p.1 p.2) → Cal l.prog w K mg base CX0 1 "_law_less" ["a", "b"] [] (sp_less K) := fun base hb => .mk' (O4 base hb) (PySem.W.mg_of X G a4) k4 b4
  have O5 : ∀ base : Heap, (∀ p ∈ ([] : List (Addr × Addr)), LamX.TabB base mg p.1 p.2) → FnOk l.prog w K mg base CX0 2 f5 _ ["times"] (sp_inOrder K) := fun base hb => ok__law_in_order F5 (G__law_less base hb) z_len
  have G__law_in_order : ∀ base : Heap, (∀ p ∈ ([] : List (Addr × Addr)), LamX.TabB base mg p.1 p.2) → Cal l.prog w K mg base CX0 2 "_law_in_order" ["times"] [] (sp_inOrder K) := fun base hb => .mk' (O5 base hb) (PySem.W.mg_of X G a5) k5 b5
  have O6 : ∀ base : Heap, (∀ p ∈ ([] : List (Addr × Addr)), LamX.TabB base mg p.1 p.2) → FnOk l.prog w K mg base CX0 1 f6 _ ["n", "d"] (sp_div K) := fun base hb => ok__law_frac F6 z_abs
  have G__law_frac : ∀ base : Heap, (∀ p ∈ ([] : List (Addr × Addr)), LamX.TabB base mg p.1 p.2) → Cal l.prog w K mg base CX0 1 "_law_frac" ["n", "d"] [] (sp_div K) := fun base hb => .mk' (O6 base hb) (PySem.W.mg_of X G a6) k6 b6
  have O7 : ∀ base : Heap, (∀ p ∈ ([] : List (Addr × Addr)), LamX.TabB base mg p.1 p.2) → FnOk l.prog w K mg base CX0 1 f7 _ ["text"] (sp_lnum K) := fun base hb => ok__law_number F7 z_len
  have G__law_number : ∀ base : Heap, (∀ p ∈ ([] : List (Addr × Addr)), LamX.TabB base mg p.1 p.2) → Cal l.prog w K mg base CX0 1 "_law_number" ["text"] [] (sp_lnum K) := fun base hb => .mk' (O7 base hb) (PySem.W.mg_of X G a7) k7 b7
  have O8 : ∀ base : Heap, (∀ p ∈ ([] : List (Addr × Addr)), LamX.TabB base mg p.1 p.2) → FnOk l.prog w K mg base CX0 2 f8 _ ["text"] (sp_lfrac K) := fun base hb => ok__law_fraction F8 (G__law_frac base hb) (G__law_number base hb) z_len
  have G__law_fraction : ∀ base : Heap, (∀ p ∈ ([] : List (Addr × Addr)), LamX.TabB base mg p.1 p.2) → Cal l.prog w K mg base CX0 2 "_law_fraction" ["text"] [] (sp_lfrac K) := fun base hb => .mk' (O8 base hb) (PySem.W.mg_of X G a8) k8 b8
  have O9 : ∀ base : Heap, (∀ p ∈ ([] : List (Addr × Addr)), LamX.TabB base mg p.1 p.2) → FnOk l.prog w K mg base CX0 3 f9 _ ["words"] (sp_lkr K) := fun base hb => ok__law_knots_read F9 (G__law_fraction base hb) z_len
  have G__law_knots_read : ∀ base : Heap, (∀ p ∈ ([] : List (Addr × Addr)), LamX.TabB base mg p.1 p.2) → Cal l.prog w K mg base CX0 3 "_law_knots_read" ["words"] [] (sp_lkr K) := fun base hb => .mk' (O9 base hb) (PySem.W.mg_of X G a9) k9 b9
  have O10 : ∀ base : Heap, (∀ p ∈ ([] : List (Addr × Addr)), LamX.TabB base mg p.1 p.2) → FnOk l.prog w K mg base CX0 4 f10 _ ["text"] (sp_due K) := fun base hb => ok__law_due F10 (G__law_in_order base hb) (G__law_knots_read base hb) z_isinstance z_len z_str
  have G__law_due : ∀ base : Heap, (∀ p ∈ ([] : List (Addr × Addr)), LamX.TabB base mg p.1 p.2) → Cal l.prog w K mg base CX0 4 "_law_due" ["text"] [] (sp_due K) := fun base hb => .mk' (O10 base hb) (PySem.W.mg_of X G a10) k10 b10
  have O11 : ∀ base : Heap, (∀ p ∈ ([] : List (Addr × Addr)), LamX.TabB base mg p.1 p.2) → FnOk l.prog w K mg base CX0 1 f11 _ ["self"] (sp_knots C K) := fun base hb => ok_Timetable_knots F11 TC z_list
  have G_Timetable_knots : ∀ base : Heap, (∀ p ∈ ([] : List (Addr × Addr)), LamX.TabB base mg p.1 p.2) → CalM l.prog w K mg base CX0 1 C "knots" ["self"] (sp_knots C K) := fun base hb => ⟨f11, _, (O11 base hb), ⟨a11, i11, k11⟩, b11⟩
  have O12 : ∀ base : Heap, (∀ p ∈ ([] : List (Addr × Addr)), LamX.TabB base mg p.1 p.2) → FnOk l.prog w K mg base CX0 1 f12 _ ["value"] (sp_whole K) := fun base hb => ok_is_whole F12 z_bool z_int z_isinstance
  have G_is_whole : ∀ base : Heap, (∀ p ∈ ([] : List (Addr × Addr)), LamX.TabB base mg p.1 p.2) → Cal l.prog w K mg base CX0 1 "is_whole" ["value"] [] (sp_whole K) := fun base hb => .mk' (O12 base hb) (PySem.W.mg_of X G a12) k12 b12
  have O13 : ∀ base : Heap, (∀ p ∈ ([] : List (Addr × Addr)), LamX.TabB base mg p.1 p.2) → FnOk l.prog w K mg base CX0 2 f13 _ ["value"] (sp_isFrac K) := fun base hb => ok_is_fraction F13 (G_is_whole base hb) z_isinstance z_len z_tuple m_gcd
  have G_is_fraction : ∀ base : Heap, (∀ p ∈ ([] : List (Addr × Addr)), LamX.TabB base mg p.1 p.2) → Cal l.prog w K mg base CX0 2 "is_fraction" ["value"] [] (sp_isFrac K) := fun base hb => .mk' (O13 base hb) (PySem.W.mg_of X G a13) k13 b13
  have O14 : ∀ base : Heap, (∀ p ∈ ([] : List (Addr × Addr)), LamX.TabB base mg p.1 p.2) → FnOk l.prog w K mg base CX0 3 f14 _ ["value"] (sp_isKnotO K) := fun base hb => ok_is_knot F14 (G_is_fraction base hb) z_isinstance z_len z_tuple
  have G_is_knot : ∀ base : Heap, (∀ p ∈ ([] : List (Addr × Addr)), LamX.TabB base mg p.1 p.2) → Cal l.prog w K mg base CX0 3 "is_knot" ["value"] [] (sp_isKnotO K) := fun base hb => .mk' (O14 base hb) (PySem.W.mg_of X G a14) k14 b14
  have O15 : ∀ base : Heap, (∀ p ∈ ([] : List (Addr × Addr)), LamX.TabB base mg p.1 p.2) → FnOk l.prog w K mg base CX0 1 f15 _ ["a", "b"] (sp_order K) := fun base hb => ok_order_of F15 
  have G_order_of : ∀ base : Heap, (∀ p ∈ ([] : List (Addr × Addr)), LamX.TabB base mg p.1 p.2) → Cal l.prog w K mg base CX0 1 "order_of" ["a", "b"] [] (sp_order K) := fun base hb => .mk' (O15 base hb) (PySem.W.mg_of X G a15) k15 b15
  have O16 : ∀ base : Heap, (∀ p ∈ ([] : List (Addr × Addr)), LamX.TabB base mg p.1 p.2) → FnOk l.prog w K mg base CX0 4 f16 _ ["value"] (sp_areKO K) := fun base hb => ok_are_knots F16 (G_is_knot base hb) (G_order_of base hb) z_all z_isinstance z_len z_list z_range z_tuple
  have G_are_knots : ∀ base : Heap, (∀ p ∈ ([] : List (Addr × Addr)), LamX.TabB base mg p.1 p.2) → Cal l.prog w K mg base CX0 4 "are_knots" ["value"] [] (sp_areKO K) := fun base hb => .mk' (O16 base hb) (PySem.W.mg_of X G a16) k16 b16
  have O17 : ∀ base : Heap, (∀ p ∈ ([] : List (Addr × Addr)), LamX.TabB base mg p.1 p.2) → FnOk l.prog w K mg base CX0 1 f17 _ ["n", "d"] (sp_div K) := fun base hb => ok_new_fraction F17 m_gcd
  have G_new_fraction : ∀ base : Heap, (∀ p ∈ ([] : List (Addr × Addr)), LamX.TabB base mg p.1 p.2) → Cal l.prog w K mg base CX0 1 "new_fraction" ["n", "d"] [] (sp_div K) := fun base hb => ⟨f17, _, ds17_0, (O17 base hb), PySem.W.mg_of X G a17, k17, b17_0, vl17_0⟩
  have G_new_fraction_1 : ∀ base : Heap, (∀ p ∈ ([] : List (Addr × Addr)), LamX.TabB base mg p.1 p.2) → Cal l.prog w K mg base CX0 1 "new_fraction" ["n", "d"] [.int 1] (sp_div K) := fun base hb => ⟨f17, _, ds17_1, (O17 base hb), PySem.W.mg_of X G a17, k17, b17_1, vl17_1⟩
  have O18 : ∀ base : Heap, (∀ p ∈ ([] : List (Addr × Addr)), LamX.TabB base mg p.1 p.2) → FnOk l.prog w K mg base CX0 2 f18 _ ["a", "b"] (sp_rest K) := fun base hb => ok_rest_of F18 (G_new_fraction base hb)
  have G_rest_of : ∀ base : Heap, (∀ p ∈ ([] : List (Addr × Addr)), LamX.TabB base mg p.1 p.2) → Cal l.prog w K mg base CX0 2 "rest_of" ["a", "b"] [] (sp_rest K) := fun base hb => .mk' (O18 base hb) (PySem.W.mg_of X G a18) k18 b18
  have O19 : ∀ base : Heap, (∀ p ∈ ([] : List (Addr × Addr)), LamX.TabB base mg p.1 p.2) → FnOk l.prog w K mg base CX0 2 f19 _ ["a", "b"] (sp_share K) := fun base hb => ok_share_of F19 (G_new_fraction base hb)
  have G_share_of : ∀ base : Heap, (∀ p ∈ ([] : List (Addr × Addr)), LamX.TabB base mg p.1 p.2) → Cal l.prog w K mg base CX0 2 "share_of" ["a", "b"] [] (sp_share K) := fun base hb => .mk' (O19 base hb) (PySem.W.mg_of X G a19) k19 b19
  have O20 : ∀ base : Heap, (∀ p ∈ ([] : List (Addr × Addr)), LamX.TabB base mg p.1 p.2) → FnOk l.prog w K mg base CX0 3 f20 _ ["knots", "k"] (sp_paceB K) := fun base hb => ok_pace_behind F20 (G_rest_of base hb) (G_share_of base hb) z_len u_ZERO
  have G_pace_behind : ∀ base : Heap, (∀ p ∈ ([] : List (Addr × Addr)), LamX.TabB base mg p.1 p.2) → Cal l.prog w K mg base CX0 3 "pace_behind" ["knots", "k"] [] (sp_paceB K) := fun base hb => .mk' (O20 base hb) (PySem.W.mg_of X G a20) k20 b20
  have O21 : ∀ base : Heap, (∀ p ∈ ([] : List (Addr × Addr)), LamX.TabB base mg p.1 p.2) → FnOk l.prog w K mg base CX0 4 f21 _ ["knots"] (sp_plainK K) := fun base hb => ok_plain_knots F21 (G_pace_behind base hb) z_len z_range
  have G_plain_knots : ∀ base : Heap, (∀ p ∈ ([] : List (Addr × Addr)), LamX.TabB base mg p.1 p.2) → Cal l.prog w K mg base CX0 4 "plain_knots" ["knots"] [] (sp_plainK K) := fun base hb => .mk' (O21 base hb) (PySem.W.mg_of X G a21) k21 b21
  have O22 : ∀ base : Heap, (∀ p ∈ ([] : List (Addr × Addr)), LamX.TabB base mg p.1 p.2) → FnOk l.prog w K mg base (L2.CX l.prog w) 5 f22 _ ["self", "knots"] (sp_initO C C_NoTable K) := fun base hb => ok_Timetable___init__ F22 TC x_NoTable (G_are_knots base hb) (G_plain_knots base hb) z_len z_list
  have G_Timetable_init : ∀ base : Heap, (∀ p ∈ ([] : List (Addr × Addr)), LamX.TabB base mg p.1 p.2) → CalI l.prog w K mg base (L2.CX l.prog w) 5 C ["self", "knots"] (sp_initO C C_NoTable K) := fun base hb => ⟨f22, _, (O22 base hb), ⟨mkC, a22, i22, kcC⟩, b22⟩
  have O23 : ∀ base : Heap, (∀ p ∈ ([] : List (Addr × Addr)), LamX.TabB base mg p.1 p.2) → FnOk l.prog w K mg base CX0 1 f23 _ ["a"] (sp_fText K) := fun base hb => ok_fraction_text F23 
  have G_fraction_text : ∀ base : Heap, (∀ p ∈ ([] : List (Addr × Addr)), LamX.TabB base mg p.1 p.2) → Cal l.prog w K mg base CX0 1 "fraction_text" ["a"] [] (sp_fText K) := fun base hb => .mk' (O23 base hb) (PySem.W.mg_of X G a23) k23 b23
  have O24 : ∀ base : Heap, (∀ p ∈ ([] : List (Addr × Addr)), LamX.TabB base mg p.1 p.2) → FnOk l.prog w K mg base CX0 1 f24 _ ["word"] (sp_isNat K) := fun base hb => ok_is_natural F24 z_all z_len u_DIGITS u_MOST_DIGITS
  have G_is_natural : ∀ base : Heap, (∀ p ∈ ([] : List (Addr × Addr)), LamX.TabB base mg p.1 p.2) → Cal l.prog w K mg base CX0 1 "is_natural" ["word"] [] (sp_isNat K) := fun base hb => .mk' (O24 base hb) (PySem.W.mg_of X G a24) k24 b24
  have O25 : ∀ base : Heap, (∀ p ∈ ([] : List (Addr × Addr)), LamX.TabB base mg p.1 p.2) → FnOk l.prog w K mg base CX0 3 f25 _ ["word"] (sp_readFo K) := fun base hb => ok_read_fraction F25 (G_fraction_text base hb) (G_is_fraction base hb) (G_is_natural base hb) z_all z_int z_len
  have G_read_fraction : ∀ base : Heap, (∀ p ∈ ([] : List (Addr × Addr)), LamX.TabB base mg p.1 p.2) → Cal l.prog w K mg base CX0 3 "read_fraction" ["word"] [] (sp_readFo K) := fun base hb => .mk' (O25 base hb) (PySem.W.mg_of X G a25) k25 b25
  have O26 : ∀ base : Heap, (∀ p ∈ ([] : List (Addr × Addr)), LamX.TabB base mg p.1 p.2) → FnOk l.prog w K mg base CX0 4 f26 _ ["word"] (sp_readKo K) := fun base hb => ok_read_knot F26 (G_is_knot base hb) (G_read_fraction base hb) z_tuple
  have G_read_knot : ∀ base : Heap, (∀ p ∈ ([] : List (Addr × Addr)), LamX.TabB base mg p.1 p.2) → Cal l.prog w K mg base CX0 4 "read_knot" ["word"] [] (sp_readKo K) := fun base hb => .mk' (O26 base hb) (PySem.W.mg_of X G a26) k26 b26
  have O27 : ∀ base : Heap, (∀ p ∈ ([] : List (Addr × Addr)), LamX.TabB base mg p.1 p.2) → FnOk l.prog w K mg base CX0 5 f27 _ ["words"] (sp_readKso K) := fun base hb => ok_read_knots F27 (G_read_knot base hb) z_len z_tuple
  have G_read_knots : ∀ base : Heap, (∀ p ∈ ([] : List (Addr × Addr)), LamX.TabB base mg p.1 p.2) → Cal l.prog w K mg base CX0 5 "read_knots" ["words"] [] (sp_readKso K) := fun base hb => .mk' (O27 base hb) (PySem.W.mg_of X G a27) k27 b27
  have O28 : ∀ base : Heap, (∀ p ∈ ([] : List (Addr × Addr)), LamX.TabB base mg p.1 p.2) → FnOk l.prog w K mg base (L2.CX l.prog w) 7 f28 _ ["text"] (sp_readTo C C_NoTable C_NoText K) := fun base hb => ok_read_table F28 TC (G_Timetable_init base hb) (G_read_knots base hb) z_isinstance z_str (N_NoText base hb)
  have G_read_table : ∀ base : Heap, (∀ p ∈ ([] : List (Addr × Addr)), LamX.TabB base mg p.1 p.2) → Cal l.prog w K mg base (L2.CX l.prog w) 7 "read_table" ["text"] [] (sp_readTo C C_NoTable C_NoText K) := fun base hb => .mk' (O28 base hb) (PySem.W.mg_of X G a28) k28 b28
  have O29 : ∀ base : Heap, (∀ p ∈ ([] : List (Addr × Addr)), LamX.TabB base mg p.1 p.2) → FnOk l.prog w K mg base CX0 8 f29 _ ["text"] (sp_said C K) := fun base hb => ok__law_said F29 TC x_NoTable (G_Timetable_knots base hb) (G_read_table base hb) z_isinstance z_repr m_TrackError (N_NoText base hb) eC_NoTable sB sT kBT kBB kTT kTB
  have G__law_said : ∀ base : Heap, (∀ p ∈ ([] : List (Addr × Addr)), LamX.TabB base mg p.1 p.2) → Cal l.prog w K mg base CX0 8 "_law_said" ["text"] [] (sp_said C K) := fun base hb => .mk' (O29 base hb) (PySem.W.mg_of X G a29) k29 b29
  have O30 : ∀ base : Heap, (∀ p ∈ ([] : List (Addr × Addr)), LamX.TabB base mg p.1 p.2) → FnOk l.prog w K mg base CX0 3 f30 _ ["state", "items"] (sp_pickS K) := fun base hb => ok__law_pick F30 (G__law_draw base hb) z_len
  have G__law_pick : ∀ base : Heap, (∀ p ∈ ([] : List (Addr × Addr)), LamX.TabB base mg p.1 p.2) → Cal l.prog w K mg base CX0 3 "_law_pick" ["state", "items"] [] (sp_pickS K) := fun base hb => .mk' (O30 base hb) (PySem.W.mg_of X G a30) k30 b30
  have O31 : ∀ base : Heap, (∀ p ∈ ([] : List (Addr × Addr)), LamX.TabB base mg p.1 p.2) → FnOk l.prog w K mg base CX0 4 f31 _ ["state", "text"] (sp_spoil K) := fun base hb => ok__law_spoilt_text F31 (G__law_draw base hb) (G__law_pick base hb) z_len z_list z_max z_min
  have G__law_spoilt_text : ∀ base : Heap, (∀ p ∈ ([] : List (Addr × Addr)), LamX.TabB base mg p.1 p.2) → Cal l.prog w K mg base CX0 4 "_law_spoilt_text" ["state", "text"] [] (sp_spoil K) := fun base hb => .mk' (O31 base hb) (PySem.W.mg_of X G a31) k31 b31
  have O32 : ∀ base : Heap, (∀ p ∈ ([] : List (Addr × Addr)), LamX.TabB base mg p.1 p.2) → FnOk l.prog w K mg base CX0 4 f32 _ ["state"] (sp_long K) := fun base hb => ok__law_long F32 (G__law_draw base hb) (G__law_pick base hb) z_range
  have G__law_long : ∀ base : Heap, (∀ p ∈ ([] : List (Addr × Addr)), LamX.TabB base mg p.1 p.2) → Cal l.prog w K mg base CX0 4 "_law_long" ["state"] [] (sp_long K) := fun base hb => .mk' (O32 base hb) (PySem.W.mg_of X G a32) k32 b32
  have O33 : ∀ base : Heap, (∀ p ∈ ([] : List (Addr × Addr)), LamX.TabB base mg p.1 p.2) → FnOk l.prog w K mg base CX0 5 f33 _ ["state"] (sp_anyF K) := fun base hb => ok__law_any_fraction F33 (G__law_frac base hb) (G__law_long base hb) (G__law_pick base hb) z_max
  have G__law_any_fraction : ∀ base : Heap, (∀ p ∈ ([] : List (Addr × Addr)), LamX.TabB base mg p.1 p.2) → Cal l.prog w K mg base CX0 5 "_law_any_fraction" ["state"] [] (sp_anyF K) := fun base hb => .mk' (O33 base hb) (PySem.W.mg_of X G a33) k33 b33
  have O34 : ∀ base : Heap, (∀ p ∈ ([] : List (Addr × Addr)), LamX.TabB base mg p.1 p.2) → FnOk l.prog w K mg base CX0 1 f34 _ ["x"] (sp_lfText K) := fun base hb => ok__law_fraction_text F34 z_str
  have G__law_fraction_text : ∀ base : Heap, (∀ p ∈ ([] : List (Addr × Addr)), LamX.TabB base mg p.1 p.2) → Cal l.prog w K mg base CX0 1 "_law_fraction_text" ["x"] [] (sp_lfText K) := fun base hb => .mk' (O34 base hb) (PySem.W.mg_of X G a34) k34 b34
  have O35 : ∀ base : Heap, (∀ p ∈ ([] : List (Addr × Addr)), LamX.TabB base mg p.1 p.2) → FnOk l.prog w K mg base CX0 2 f35 _ ["knot"] (sp_lkText K) := fun base hb => ok__law_knot_text F35 (G__law_fraction_text base hb)
  have G__law_knot_text : ∀ base : Heap, (∀ p ∈ ([] : List (Addr × Addr)), LamX.TabB base mg p.1 p.2) → Cal l.prog w K mg base CX0 2 "_law_knot_text" ["knot"] [] (sp_lkText K) := fun base hb => .mk' (O35 base hb) (PySem.W.mg_of X G a35) k35 b35
  have O36 : ∀ base : Heap, (∀ p ∈ ([] : List (Addr × Addr)), LamX.TabB base mg p.1 p.2) → FnOk l.prog w K mg base CX0 6 f36 _ ["state"] (sp_wholeT K) := fun base hb => ok__law_whole_text F36 (G__law_any_fraction base hb) (G__law_draw base hb) (G__law_frac base hb) (G__law_in_order base hb) (G__law_knot_text base hb) (G__law_pick base hb) z_enumerate z_range
  have G__law_whole_text : ∀ base : Heap, (∀ p ∈ ([] : List (Addr × Addr)), LamX.TabB base mg p.1 p.2) → Cal l.prog w K mg base CX0 6 "_law_whole_text" ["state"] [] (sp_wholeT K) := fun base hb => .mk' (O36 base hb) (PySem.W.mg_of X G a36) k36 b36
  have O37 : ∀ base : Heap, (∀ p ∈ ([] : List (Addr × Addr)), LamX.TabB base mg p.1 p.2) → RunG l.prog w K mg base 9 fa _ "script" (sp_law K) := fun base hb => ok_law l37 c37 (G__law_begun base hb) (G__law_draw base hb) (G__law_due base hb) (G__law_said base hb) (G__law_spoilt_text base hb) (G__law_whole_text base hb) z_range z_repr
  refine ⟨_, [], sp_law K, (fun p hp => ?_), (fun p hp => ?_), (fun p hp => ?_), (fun s v => .of_eq rfl), (fun H a ns hl _ hT hS => ⟨a, ns, rfl, hS, hl, fun _ => rfl⟩), fun base _ _ hTB => O37 base hTB⟩
  · exact absurd hp (by simp)
  · exact absurd hp (by simp)
  · exact absurd hp (by simp)
theorem walk {l : PySem.W.OpenLaw} {q : Program} {loose : List Str} {XP : (Str → Option Value) → Heap → Prop} {YP : World → Heap → Prop} {d : DefRec} {K : Params → PySem.W.Frag} (hn : l.most = some 63) (hdf : d.params.defaults = [])
    (hY : ∀ (w : World) (h : Heap), YP w h → (K w.params).In h)
    (F : ∀ (w : World) (mg : Str → Option Value) (fa : Addr) (h : Heap), YP w h → (K w.params).In h → h.Ns mainGlobals mg → mg d.name = some (.ref fa) → LawG l w (K w.params) 9 63 "script" mg fa h) :
    PySem.W.WalkO q loose XP YP l.row.toRowW d [] (fun f vs => PySem.call f vs) :=
  walkG (n := 63) (k := 9) (x := "script") hn (by decide) hdf ⟨rfl, by decide, by decide⟩ hY F
end My
open PySem PySem.W PyProof.Rows
set_option maxRecDepth 100000 in
set_option maxHeartbeats 0 in
theorem PySem.Challenge.cw_handedpast_k85_table_texts_spoilt_holds : PySem.Challenge.rw_handedpast_k85_table_texts_spoilt.Holds := by
  w_on; o_law; k_head; (case hw => w_witness2)
  k_fill
  refine My.walk (l := PySem.Challenge.rw_handedpast_k85_table_texts_spoilt) rfl rfl (fun w h Y => PySem.W.kIn_of Y) ?F
  case F =>
    intro w mg fa h Y KX G hmg
    refine' My.all_mk KX G hmg ?gE_NoTable ?xE_NoTable ?kE_NoTable ?bE_NoTable ?tE_NoTable ?iE_NoTable ?sE_NoTable ?gE_NoText ?gE_TrackError ?nI_NoText ?nT_NoText ?nL_NoText ?nC_NoText ?nD_NoText ?nV_NoText ?nF_NoText ?nCe_NoText ?nCl_NoText ?nSe_NoText ?nSu_NoText ?nTo_NoText ?nKs_NoText ?nVE_NoText ?nTp_NoText ?nX_NoText ?nLk_NoText ?nBm_NoText ?nSa_NoText ?nBx_NoText ?nTy_NoText ?nKe_NoText ?nRo_NoText ?nIs_NoText ?sB ?sT ?kBT ?kBB ?kTT ?kTB ?eN_cls ?eT_cls ?eG_NoText ?eK_NoText ?eD_NoText ?eA_NoText ?eM_NoText ?eG_NoTable ?eK_NoTable ?eD_NoTable ?eA_NoTable ?eM_NoTable ?aC ?pgC ?hdC ?poC ?saC ?mkC ?kcC ?nKC ?nPC ?caC ?cnC ?ckC ?cmC ?rdC ?gaC ?moC ?a1 ?l1 ?c1 ?k1 ?a2 ?l2 ?c2 ?k2 ?a3 ?l3 ?c3 ?k3 ?a4 ?l4 ?c4 ?k4 ?a5 ?l5 ?c5 ?k5 ?a6 ?l6 ?c6 ?k6 ?a7 ?l7 ?c7 ?k7 ?a8 ?l8 ?c8 ?k8 ?a9 ?l9 ?c9 ?k9 ?a10 ?l10 ?c10 ?k10 ?a11 ?i11 ?l11 ?c11 ?k11 ?a12 ?l12 ?c12 ?k12 ?a13 ?l13 ?c13 ?k13 ?a14 ?l14 ?c14 ?k14 ?a15 ?l15 ?c15 ?k15 ?a16 ?l16 ?c16 ?k16 ?a17 ?l17 ?c17 ?k17 ?lT17 ?a18 ?l18 ?c18 ?k18 ?a19 ?l19 ?c19 ?k19 ?a20 ?l20 ?c20 ?k20 ?a21 ?l21 ?c21 ?k21 ?a22 ?i22 ?l22 ?c22 ?k22 ?a23 ?l23 ?c23 ?k23 ?a24 ?l24 ?c24 ?k24 ?a25 ?l25 ?c25 ?k25 ?a26 ?l26 ?c26 ?k26 ?a27 ?l27 ?c27 ?k27 ?a28 ?l28 ?c28 ?k28 ?a29 ?l29 ?c29 ?k29 ?a30 ?l30 ?c30 ?k30 ?a31 ?l31 ?c31 ?k31 ?a32 ?l32 ?c32 ?k32 ?a33 ?l33 ?c33 ?k33 ?a34 ?l34 ?c34 ?k34 ?a35 ?l35 ?c35 ?k35 ?a36 ?l36 ?c36 ?k36 ?a37 ?l37 ?c37 ?k37 ?zz_abs ?zz_all ?zz_bool ?zz_enumerate ?zz_int ?zz_isinstance ?zz_len ?zz_list ?zz_max ?zz_min ?zz_range ?zz_repr ?zz_str ?zz_tuple ?mm_DIGITS ?mm_MOST_DIGITS ?mm_ZERO ?lZ ?cZ ?mm_gcd
    (case gE_NoTable => k_is)
    (case xE_NoTable => k_exc)
    (case kE_NoTable => k_is)
    (case bE_NoTable => k_is)
    (case tE_NoTable => k_is)
    (case iE_NoTable => k_is)
    (case sE_NoTable => first | rfl | k_is)
    (case gE_NoText => k_is)
    (case gE_TrackError => k_is)
    (case nI_NoText => k_is)
    (case nT_NoText => k_is)
    (case nL_NoText => k_is)
    (case nC_NoText => k_is)
    (case nD_NoText => k_is)
    (case nV_NoText => exact rfl)
    (case nF_NoText => first | rfl | decide +kernel)
    (case nCe_NoText => k_is)
    (case nCl_NoText => k_is)
    (case nSe_NoText => k_is)
    (case nSu_NoText => k_is)
    (case nTo_NoText => first | rfl | decide +kernel)
    (case nKs_NoText => first | rfl | k_is)
    (case nVE_NoText => k_is)
    (case nTp_NoText => k_is)
    (case nX_NoText => first | rfl | k_is)
    (case nLk_NoText => k_is)
    (case nBm_NoText => first | rfl | decide)
    (case nSa_NoText => k_is)
    (case nBx_NoText => k_is)
    (case nTy_NoText => k_is)
    (case nKe_NoText => k_is)
    (case nRo_NoText => k_is)
    (case nIs_NoText => k_is)
    (case sB => first | rfl | k_is)
    (case sT => first | rfl | k_is)
    (case kBT => first | rfl | k_is)
    (case kBB => first | rfl | k_is)
    (case kTT => first | rfl | k_is)
    (case kTB => first | rfl | k_is)
    (case eN_cls => k_is)
    (case eT_cls => k_is)
    (case eG_NoText => k_is)
    (case eK_NoText => k_is)
    (case eD_NoText => k_is)
    (case eA_NoText => k_is)
    (case eM_NoText => k_is)
    (case eG_NoTable => k_is)
    (case eK_NoTable => k_is)
    (case eD_NoTable => k_is)
    (case eA_NoTable => k_is)
    (case eM_NoTable => k_is)
    (case aC => k_is)
    (case pgC => k_is)
    (case hdC => k_is)
    (case poC => k_is)
    (case saC => k_is)
    (case mkC => k_is)
    (case kcC => k_is)
    (case nKC => k_is)
    (case nPC => k_is)
    (case caC => k_is)
    (case cnC => k_is)
    (case ckC => k_is)
    (case cmC => k_is)
    (case rdC => k_is)
    (case gaC => k_is)
    (case moC => k_is)
    (case a1 => k_is)
    (case l1 => k_is)
    (case c1 => k_is)
    (case k1 => k_is)
    (case a2 => k_is)
    (case l2 => k_is)
    (case c2 => k_is)
    (case k2 => k_is)
    (case a3 => k_is)
    (case l3 => k_is)
    (case c3 => k_is)
    (case k3 => k_is)
    (case a4 => k_is)
    (case l4 => k_is)
    (case c4 => k_is)
    (case k4 => k_is)
    (case a5 => k_is)
    (case l5 => k_is)
    (case c5 => k_is)
    (case k5 => k_is)
    (case a6 => k_is)
    (case l6 => k_is)
    (case c6 => k_is)
    (case k6 => k_is)
    (case a7 => k_is)
    (case l7 => k_is)
    (case c7 => k_is)
    (case k7 => k_is)
    (case a8 => k_is)
    (case l8 => k_is)
    (case c8 => k_is)
    (case k8 => k_is)
    (case a9 => k_is)
    (case l9 => k_is)
    (case c9 => k_is)
    (case k9 => k_is)
    (case a10 => k_is)
    (case l10 => k_is)
    (case c10 => k_is)
    (case k10 => k_is)
    (case a11 => k_is)
    (case i11 => k_is)
    (case l11 => k_is)
    (case c11 => k_is)
    (case k11 => k_is)
    (case a12 => k_is)
    (case l12 => k_is)
    (case c12 => k_is)
    (case k12 => k_is)
    (case a13 => k_is)
    (case l13 => k_is)
    (case c13 => k_is)
    (case k13 => k_is)
    (case a14 => k_is)
    (case l14 => k_is)
    (case c14 => k_is)
    (case k14 => k_is)
    (case a15 => k_is)
    (case l15 => k_is)
    (case c15 => k_is)
    (case k15 => k_is)
    (case a16 => k_is)
    (case l16 => k_is)
    (case c16 => k_is)
    (case k16 => k_is)
    (case a17 => k_is)
    (case l17 => k_is)
    (case c17 => k_is)
    (case k17 => k_is)
    (case lT17 => k_is)
    (case a18 => k_is)
    (case l18 => k_is)
    (case c18 => k_is)
    (case k18 => k_is)
    (case a19 => k_is)
    (case l19 => k_is)
    (case c19 => k_is)
    (case k19 => k_is)
    (case a20 => k_is)
    (case l20 => k_is)
    (case c20 => k_is)
    (case k20 => k_is)
    (case a21 => k_is)
    (case l21 => k_is)
    (case c21 => k_is)
    (case k21 => k_is)
    (case a22 => k_is)
    (case i22 => k_is)
    (case l22 => k_is)
    (case c22 => k_is)
    (case k22 => k_is)
    (case a23 => k_is)
    (case l23 => k_is)
    (case c23 => k_is)
    (case k23 => k_is)
    (case a24 => k_is)
    (case l24 => k_is)
    (case c24 => k_is)
    (case k24 => k_is)
    (case a25 => k_is)
    (case l25 => k_is)
    (case c25 => k_is)
    (case k25 => k_is)
    (case a26 => k_is)
    (case l26 => k_is)
    (case c26 => k_is)
    (case k26 => k_is)
    (case a27 => k_is)
    (case l27 => k_is)
    (case c27 => k_is)
    (case k27 => k_is)
    (case a28 => k_is)
    (case l28 => k_is)
    (case c28 => k_is)
    (case k28 => k_is)
    (case a29 => k_is)
    (case l29 => k_is)
    (case c29 => k_is)
    (case k29 => k_is)
    (case a30 => k_is)
    (case l30 => k_is)
    (case c30 => k_is)
    (case k30 => k_is)
    (case a31 => k_is)
    (case l31 => k_is)
    (case c31 => k_is)
    (case k31 => k_is)
    (case a32 => k_is)
    (case l32 => k_is)
    (case c32 => k_is)
    (case k32 => k_is)
    (case a33 => k_is)
    (case l33 => k_is)
    (case c33 => k_is)
    (case k33 => k_is)
    (case a34 => k_is)
    (case l34 => k_is)
    (case c34 => k_is)
    (case k34 => k_is)
    (case a35 => k_is)
    (case l35 => k_is)
    (case c35 => k_is)
    (case k35 => k_is)
    (case a36 => k_is)
    (case l36 => k_is)
    (case c36 => k_is)
    (case k36 => k_is)
    (case a37 => k_is)
    (case l37 => k_is)
    (case c37 => k_is)
    (case k37 => k_is)
    (case zz_abs => k_is)
    (case zz_all => k_is)
    (case zz_bool => k_is)
    (case zz_enumerate => k_is)
    (case zz_int => k_is)
    (case zz_isinstance => k_is)
    (case zz_len => k_is)
    (case zz_list => k_is)
    (case zz_max => k_is)
    (case zz_min => k_is)
    (case zz_range => k_is)
    (case zz_repr => k_is)
    (case zz_str => k_is)
    (case zz_tuple => k_is)
    (case mm_DIGITS => k_is)
    (case mm_MOST_DIGITS => k_is)
    (case mm_ZERO => k_is)
    (case lZ => k_is)
    (case cZ => first | rfl | k_is)
    (case mm_gcd => k_is)
