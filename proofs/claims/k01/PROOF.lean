import PyProof.Rows.All
import Wide.All
import OpenK.AllK
import Wide.FinOn
import HandS.ForMost
import HandS.ForExc
import HandS.Wide
import HandS.Gcd
import HandS.IsInst
import HandS.Defaults
import HandS.Style
import HandS.Star
import PySem.Challenge.RW_handedpast_k01_fractions_made
set_option Elab.async false
set_option linter.all false
set_option maxRecDepth 100000
set_option maxHeartbeats 4000000
namespace My
theorem q_den_pos (q : Rat) : (0 : Int) < q.den := by have := q.den_pos; omega
theorem q_den_ne (q : Rat) : ((q.den : Int) : Rat) ≠ 0 := by
  have := q_den_pos q
  intro h
  have : (q.den : Int) = 0 := by exact_mod_cast h
  omega
theorem q_eq (q : Rat) : q = (q.num : Rat) / ((q.den : Int) : Rat) := by
  have h := Rat.num_divInt_den q
  rw [Rat.divInt_eq_div] at h
  exact h.symm
/-- the parts of n / d, by any x / y in lowest terms with n y = x d -/
theorem rat_parts {n d x y : Int} (hd : d ≠ 0) (hy : 0 < y) (hc : Nat.gcd x.natAbs y.natAbs = 1) (e : x * d = n * y) : ((n : Rat) / (d : Rat)).num = x ∧ (((n : Rat) / (d : Rat)).den : Int) = y := by
  obtain ⟨k, rfl⟩ : ∃ k : Nat, y = k := ⟨y.toNat, by omega⟩
  have hk : k ≠ 0 := by omega
  have r : ((n : Rat) / (d : Rat)) = (⟨x, k, hk, by simpa [Nat.Coprime] using hc⟩ : Rat) := by
    rw [← Rat.divInt_eq_div, Rat.mk_eq_divInt, Rat.divInt_eq_divInt_iff hd (by omega)]
    exact e.symm
  rw [r]
  exact ⟨rfl, rfl⟩
theorem gcd_pos_of {n d : Int} (hd : d ≠ 0) : 0 < Nat.gcd n.natAbs d.natAbs := Nat.gcd_pos_of_pos_right _ (by omega)
theorem gcd_dvd_l (n d : Int) : ((Nat.gcd n.natAbs d.natAbs : Nat) : Int) ∣ n := Int.ofNat_dvd_left.mpr (Nat.gcd_dvd_left ..)
theorem gcd_dvd_r (n d : Int) : ((Nat.gcd n.natAbs d.natAbs : Nat) : Int) ∣ d := Int.ofNat_dvd_left.mpr (Nat.gcd_dvd_right ..)
/-- what lowest terms are: divide by g or -g, as d's sign is -/
theorem low_terms {n d g : Int} (hd : d ≠ 0) (hg : g = ((Nat.gcd n.natAbs d.natAbs : Nat) : Int)) :
    (0 < d → ((n : Rat) / (d : Rat)).num = n / g ∧ (((n : Rat) / (d : Rat)).den : Int) = d / g) ∧
    (d < 0 → ((n : Rat) / (d : Rat)).num = -(n / g) ∧ (((n : Rat) / (d : Rat)).den : Int) = -(d / g)) := by
  have gp : 0 < g := by rw [hg]; exact_mod_cast gcd_pos_of hd
  obtain ⟨a, ha⟩ : g ∣ n := hg ▸ gcd_dvd_l n d
  obtain ⟨b, hb⟩ : g ∣ d := hg ▸ gcd_dvd_r n d
  have en : n / g = a := by rw [ha]; exact Int.mul_ediv_cancel_left _ (by omega)
  have ed : d / g = b := by rw [hb]; exact Int.mul_ediv_cancel_left _ (by omega)
  have hc : Nat.gcd a.natAbs b.natAbs = 1 := by
    have h1 : Nat.gcd (g.natAbs * a.natAbs) (g.natAbs * b.natAbs) = g.natAbs := by
      rw [← Int.natAbs_mul, ← Int.natAbs_mul, ← ha, ← hb]; omega
    rw [Nat.gcd_mul_left] at h1
    have h2 : g.natAbs * Nat.gcd a.natAbs b.natAbs = g.natAbs * 1 := by omega
    exact Nat.eq_of_mul_eq_mul_left (by omega) h2
  rw [en, ed]
  refine ⟨fun h => ?_, fun h => ?_⟩
  · have hb0 : 0 < b := by
      rcases Int.lt_trichotomy b 0 with z | z | z
      · have : g * b < 0 := Int.mul_neg_of_pos_of_neg gp z
        omega
      · subst z; omega
      · exact z
    exact rat_parts hd hb0 hc (by grind)
  · have hb0 : b < 0 := by
      rcases Int.lt_trichotomy b 0 with z | z | z
      · exact z
      · subst z; omega
      · have : 0 < g * b := Int.mul_pos gp z
        omega
    refine rat_parts hd (by omega) (by simpa using hc) (by grind)
theorem fdiv_neg_dvd {n g : Int} (h : g ∣ n) : n.fdiv (-g) = -(n / g) := by
  by_cases z : g = 0
  · subst z; simp
  · obtain ⟨a, rfl⟩ := h
    rw [Int.mul_ediv_cancel_left _ z, show g * a = (-g) * (-a) by grind, Int.mul_fdiv_cancel_left _ (by omega)]
theorem fdiv_dvd {n g : Int} (h : g ∣ n) : n.fdiv g = n / g := by
  by_cases z : g = 0
  · subst z; simp
  · obtain ⟨a, rfl⟩ := h
    rw [Int.mul_ediv_cancel_left _ z, Int.mul_fdiv_cancel_left _ z]
/-- arithmetic of fractions by their parts -/
theorem q_add (a b : Rat) : ((a.num * b.den + b.num * a.den : Int) : Rat) / ((a.den * b.den : Int) : Rat) = a + b := by
  have ha := q_den_ne a
  have hb := q_den_ne b
  conv => rhs; rw [q_eq a, q_eq b]
  simp only [Rat.intCast_add, Rat.intCast_mul]
  grind
theorem q_sub (a b : Rat) : ((a.num * b.den - b.num * a.den : Int) : Rat) / ((a.den * b.den : Int) : Rat) = a - b := by
  have ha := q_den_ne a
  have hb := q_den_ne b
  conv => rhs; rw [q_eq a, q_eq b]
  simp only [Rat.intCast_sub, Rat.intCast_mul]
  grind
theorem q_mul (a b : Rat) : ((a.num * b.num : Int) : Rat) / ((a.den * b.den : Int) : Rat) = a * b := by
  have ha := q_den_ne a
  have hb := q_den_ne b
  conv => rhs; rw [q_eq a, q_eq b]
  simp only [Rat.intCast_mul]
  grind
theorem q_div (a b : Rat) (h : b ≠ 0) : ((a.num * b.den : Int) : Rat) / ((a.den * b.num : Int) : Rat) = a / b := by
  have ha := q_den_ne a
  have hb := q_den_ne b
  have hn : ((b.num : Int) : Rat) ≠ 0 := by
    intro z
    have : b.num = 0 := by exact_mod_cast z
    exact h (Rat.num_eq_zero.mp this)
  conv => rhs; rw [q_eq a, q_eq b]
  simp only [Rat.intCast_mul]
  grind
theorem q_lt (a b : Rat) : (a.num * b.den < b.num * a.den) ↔ a < b := (Rat.lt_iff a b).symm
theorem q_floor (a : Rat) : a.num / (a.den : Int) = a.floor := (Rat.floor_def a).symm
theorem q_num_ne {b : Rat} : b.num ≠ 0 ↔ b ≠ 0 := by rw [ne_eq, ne_eq, Rat.num_eq_zero]
theorem q_ext {a b : Rat} (h1 : a.num = b.num) (h2 : (a.den : Int) = b.den) : a = b := Rat.ext h1 (by omega)
theorem q_coprime (a : Rat) : Nat.gcd a.num.natAbs a.den = 1 := a.reduced

/-! ## sizes -/
/-- a whole number of at most k bits -/
def Bd (k : Nat) (i : Int) : Prop := i.natAbs < 2 ^ k
def BQ (k : Nat) (q : Rat) : Prop := Bd k q.num ∧ Bd k q.den
theorem Bd.mono {j k : Nat} {i : Int} (h : Bd j i) (l : j ≤ k) : Bd k i := Nat.lt_of_lt_of_le h (Nat.pow_le_pow_right (by omega) l)
theorem Bd.mul {j k : Nat} {a b : Int} (ha : Bd j a) (hb : Bd k b) : Bd (j + k) (a * b) := by
  unfold Bd at *
  rw [Int.natAbs_mul, Nat.pow_add]
  exact Nat.mul_lt_mul'' ha hb
theorem Bd.add {j : Nat} {a b : Int} (ha : Bd j a) (hb : Bd j b) : Bd (j + 1) (a + b) := by
  unfold Bd at *
  have := Int.natAbs_add_le a b
  rw [Nat.pow_succ]
  omega
theorem Bd.neg {j : Nat} {a : Int} (ha : Bd j a) : Bd j (-a) := by unfold Bd at *; rwa [Int.natAbs_neg]
theorem Bd.sub {j : Nat} {a b : Int} (ha : Bd j a) (hb : Bd j b) : Bd (j + 1) (a - b) := by
  rw [Int.sub_eq_add_neg]; exact ha.add hb.neg
theorem Bd.addM {j k : Nat} {a b : Int} (ha : Bd j a) (hb : Bd k b) : Bd (max j k + 1) (a + b) := (ha.mono (Nat.le_max_left ..)).add (hb.mono (Nat.le_max_right ..))
theorem Bd.subM {j k : Nat} {a b : Int} (ha : Bd j a) (hb : Bd k b) : Bd (max j k + 1) (a - b) := (ha.mono (Nat.le_max_left ..)).sub (hb.mono (Nat.le_max_right ..))
theorem Bd.of_le {k : Nat} {a b : Int} (hb : Bd k b) (h : a.natAbs ≤ b.natAbs) : Bd k a := Nat.lt_of_le_of_lt h hb
theorem Bd.num {k : Nat} {q : Rat} (h : BQ k q) : Bd k q.num := h.1
theorem Bd.den {k : Nat} {q : Rat} (h : BQ k q) : Bd k (q.den : Int) := h.2
theorem BQ.mono {j k : Nat} {q : Rat} (h : BQ j q) (l : j ≤ k) : BQ k q := ⟨h.1.mono l, h.2.mono l⟩
/-- dividing makes no greater -/
theorem BQ.of_parts {k : Nat} {n d : Int} (hd : d ≠ 0) (hn : Bd k n) (hdd : Bd k d) : BQ k ((n : Rat) / (d : Rat)) := by
  have L := low_terms (n := n) hd rfl
  have gp := gcd_pos_of (n := n) hd
  have a1 : ∀ x : Int, (x / ((Nat.gcd n.natAbs d.natAbs : Nat) : Int)).natAbs ≤ x.natAbs := fun x => Int.natAbs_ediv_le_natAbs ..
  rcases Int.lt_trichotomy d 0 with z | z | z
  · obtain ⟨e1, e2⟩ := L.2 z
    refine ⟨?_, ?_⟩
    · rw [e1]; exact (hn.of_le (a1 n)).neg
    · rw [e2]; exact (hdd.of_le (a1 d)).neg
  · exact absurd z hd
  · obtain ⟨e1, e2⟩ := L.1 z
    refine ⟨?_, ?_⟩
    · rw [e1]; exact hn.of_le (a1 n)
    · rw [e2]; exact hdd.of_le (a1 d)
theorem BQ.add {j k : Nat} {a b : Rat} (ha : BQ j a) (hb : BQ k b) : BQ (j + k + 1) (a + b) := by
  rw [← q_add]
  refine BQ.of_parts ?_ ?_ ?_
  · have := Int.mul_pos (q_den_pos a) (q_den_pos b); omega
  · have h1 := ha.1.mul hb.2
    have h2 := hb.1.mul ha.2
    rw [Nat.add_comm] at h2
    exact h1.add h2
  · exact (ha.2.mul hb.2).mono (by omega)
theorem BQ.sub {j k : Nat} {a b : Rat} (ha : BQ j a) (hb : BQ k b) : BQ (j + k + 1) (a - b) := by
  rw [← q_sub]
  refine BQ.of_parts ?_ ?_ ?_
  · have := Int.mul_pos (q_den_pos a) (q_den_pos b); omega
  · have h1 := ha.1.mul hb.2
    have h2 := hb.1.mul ha.2
    rw [Nat.add_comm] at h2
    exact h1.sub h2
  · exact (ha.2.mul hb.2).mono (by omega)
theorem BQ.mul {j k : Nat} {a b : Rat} (ha : BQ j a) (hb : BQ k b) : BQ (j + k) (a * b) := by
  rw [← q_mul]
  refine BQ.of_parts ?_ (ha.1.mul hb.1) (ha.2.mul hb.2)
  have := Int.mul_pos (q_den_pos a) (q_den_pos b); omega
theorem BQ.div {j k : Nat} {a b : Rat} (ha : BQ j a) (hb : BQ k b) (h : b ≠ 0) : BQ (j + k) (a / b) := by
  rw [← q_div a b h]
  refine BQ.of_parts ?_ (ha.1.mul hb.2) (ha.2.mul hb.1)
  intro z
  rcases Int.mul_eq_zero.mp z with z | z
  · have := q_den_pos a; omega
  · exact q_num_ne.mpr h z
theorem BQ.neg {j : Nat} {a : Rat} (ha : BQ j a) : BQ j (-a) := ⟨by rw [Rat.neg_num]; exact ha.1.neg, by rw [Rat.neg_den]; exact ha.2⟩

open PySem PySem.Spec PyProof.Rows L2

/-! ## worlds: what may change (M), what is kept -/
abbrev Fg := PySem.W.Frag
abbrev Ms := Addr → Prop
abbrev Rp (α : Type) := Fg → Ms → Hp → V → α → Prop

def Own (M : Ms) (H : Hp) : Prop := ∀ b, M b → H b ≠ none
def Tr (M : Ms) (H : Hp) (M' : Ms) (H' : Hp) : Prop := ∀ b o, H b = some o → ¬ M b → H' b = some o ∧ ¬ M' b
structure Ext (M : Ms) (H H' : Hp) : Prop where
  tr : Tr M H M H'
  ow : Own M H → Own M H'
theorem Ext.of_same {M : Ms} {H H' : Hp} (s : Same H H') : Ext M H H' :=
  ⟨fun b o e n => ⟨s b o e, n⟩, fun w b m z => by
    cases e : H b with
    | none => exact w b m e
    | some o => rw [s b o e] at z; cases z⟩
theorem Ext.refl {M : Ms} {H : Hp} : Ext M H H := .of_same (Same.refl H)
theorem Ext.trans {M : Ms} {H H1 H2 : Hp} (a : Ext M H H1) (b : Ext M H1 H2) : Ext M H H2 :=
  ⟨fun c o e n => b.tr c o (a.tr c o e n).1 n, fun w => b.ow (a.ow w)⟩
theorem Own.same {M : Ms} {H H' : Hp} (s : Same H H') (w : Own M H) : Own M H' := (Ext.of_same s).ow w
theorem Own.ext {M : Ms} {H H' : Hp} (s : Ext M H H') (w : Own M H) : Own M H' := s.ow w
theorem Own.fresh {M : Ms} {H : Hp} {p : Addr} (w : Own M H) (n : H p = none) : ¬ M p := fun m => w p m n
theorem Same.upd_new {H : Hp} {p : Addr} {o : HO} (n : H p = none) : Same H (upd H p o) := fun b u e => by
  rw [upd_ne (ne_of_none e n)]; exact e
theorem Same.tup {H H' : Hp} (s : Same H H') {p : Addr} {o : HO} (e : H p = some o) : H' p = some o := s p o e

/-- what a value stands for -/
class Mono {α : Type} (R : Rp α) : Prop where
  mono : ∀ {K : Fg} {M : Ms} {H : Hp} {M' : Ms} {H' : Hp} {v : V} {a : α}, Tr M H M' H' → R K M H v a → R K M' H' v a
theorem Rp.same {α : Type} {R : Rp α} [i : Mono R] {K : Fg} {M : Ms} {H H' : Hp} {v : V} {a : α} (s : Same H H') (h : R K M H v a) : R K M H' v a := i.mono (Ext.of_same s).tr h
theorem Rp.ext {α : Type} {R : Rp α} [i : Mono R] {K : Fg} {M : Ms} {H H' : Hp} {v : V} {a : α} (s : Ext M H H') (h : R K M H v a) : R K M H' v a := i.mono s.tr h

/-- a tuple that stands still -/
def TupM (K : Fg) (M : Ms) (H : Hp) (a : Addr) (xs : List V) : Prop :=
  (¬ M a ∧ H a = some (.tup xs)) ∨
    ∃ (o : Obj) (its : Array Value) (n : Nat), K.lookup a = some o ∧ o.cls = .type "tuple" ∧ o.data = .seq its n ∧ its.size ≤ sizeLine ∧ Vals xs its.toList
def LstM (K : Fg) (M : Ms) (H : Hp) (a : Addr) (xs : List V) : Prop :=
  (¬ M a ∧ Rd H a (.lst xs)) ∨
    ∃ (o : Obj) (its : Array Value) (n : Nat), K.lookup a = some o ∧ o.cls = .type "list" ∧ o.dict = none ∧ o.data = .seq its n ∧ its.size ≤ sizeLine ∧ Vals xs its.toList
theorem TupM.sq {K : Fg} {M : Ms} {H : Hp} {a : Addr} {xs : List V} (h : TupM K M H a xs) : SqT K H a xs := h.elim (fun z => .inl (.inl z.2)) fun z => .inr z
theorem LstM.sq {K : Fg} {M : Ms} {H : Hp} {a : Addr} {xs : List V} (h : LstM K M H a xs) : SqL K H a xs := h.elim (fun z => .inl z.2) fun z => .inr z
theorem TupM.mono {K : Fg} {M M' : Ms} {H H' : Hp} {a : Addr} {xs : List V} (t : Tr M H M' H') (h : TupM K M H a xs) : TupM K M' H' a xs :=
  h.elim (fun z => .inl ⟨(t _ _ z.2 z.1).2, (t _ _ z.2 z.1).1⟩) fun z => .inr z
theorem LstM.mono {K : Fg} {M M' : Ms} {H H' : Hp} {a : Addr} {xs : List V} (t : Tr M H M' H') (h : LstM K M H a xs) : LstM K M' H' a xs :=
  h.elim (fun z => .inl (z.2.elim (fun e => ⟨(t _ _ e z.1).2, .inl (t _ _ e z.1).1⟩) fun ⟨o, e⟩ => ⟨(t _ _ e z.1).2, .inr ⟨o, (t _ _ e z.1).1⟩⟩)) fun z => .inr z

theorem Prd.monoR {α β : Type} {R S : α → β → Prop} (f : ∀ a b, R a b → S a b) : ∀ {xs : List α} {ys : List β}, Paired R xs ys → Paired S xs ys
  | _, _, .nil => .nil
  | _, _, .cons r t => .cons (f _ _ r) (Prd.monoR f t)
theorem Prd.get {α β : Type} {R : α → β → Prop} : ∀ {xs : List α} {ys : List β} {i : Nat} {y : β}, Paired R xs ys → ys[i]? = some y → ∃ x, xs[i]? = some x ∧ R x y
  | _, _, _, _, .nil, e => by simp at e
  | _, _, 0, y, .cons r _, e => by simp at e; subst e; exact ⟨_, rfl, r⟩
  | _, _, i + 1, y, .cons _ t, e => by
    obtain ⟨x, h1, h2⟩ := Prd.get (i := i) (y := y) t (by simpa using e)
    exact ⟨x, by simpa using h1, h2⟩
theorem Prd.getL {α β : Type} {R : α → β → Prop} : ∀ {xs : List α} {ys : List β} {i : Nat} {x : α}, Paired R xs ys → xs[i]? = some x → ∃ y, ys[i]? = some y ∧ R x y
  | _, _, _, _, .nil, e => by simp at e
  | _, _, 0, y, .cons r _, e => by simp at e; subst e; exact ⟨_, rfl, r⟩
  | _, _, i + 1, y, .cons _ t, e => by
    obtain ⟨x, h1, h2⟩ := Prd.getL (i := i) t (by simpa using e)
    exact ⟨x, by simpa using h1, h2⟩
theorem Prd.len {α β : Type} {R : α → β → Prop} : ∀ {xs : List α} {ys : List β}, Paired R xs ys → xs.length = ys.length
  | _, _, .nil => rfl
  | _, _, .cons _ t => congrArg Nat.succ (Prd.len t)
theorem Prd.snoc {α β : Type} {R : α → β → Prop} {x : α} {y : β} (r : R x y) : ∀ {xs : List α} {ys : List β}, Paired R xs ys → Paired R (xs ++ [x]) (ys ++ [y])
  | _, _, .nil => .cons r .nil
  | _, _, .cons q t => .cons q (Prd.snoc r t)
theorem Prd.append {α β : Type} {R : α → β → Prop} : ∀ {xs xs' : List α} {ys ys' : List β}, Paired R xs ys → Paired R xs' ys' → Paired R (xs ++ xs') (ys ++ ys')
  | _, _, _, _, .nil, s => s
  | _, _, _, _, .cons q t, s => .cons q (Prd.append t s)
theorem Prd.nil_iff {α β : Type} {R : α → β → Prop} {xs : List α} (h : Paired R xs ([] : List β)) : xs = [] := by cases h; rfl

/-! ## what values stand for -/
def rInt : Rp Int := fun _ _ _ v i => v = .int i
def rBl : Rp Bool := fun _ _ _ v b => v = .bl b
def rNon : Rp Unit := fun _ _ _ v _ => v = .non
/-- a fraction -/
def rFr : Rp Rat := fun K M H v q => ∃ p, v = .ref p ∧ TupM K M H p [.int q.num, .int q.den]
def rT2 {α β : Type} (A : Rp α) (B : Rp β) : Rp (α × β) := fun K M H v ab => ∃ p x y, v = .ref p ∧ TupM K M H p [x, y] ∧ A K M H x ab.1 ∧ B K M H y ab.2
def rL {α : Type} (A : Rp α) : Rp (List α) := fun K M H v as => ∃ p vs, v = .ref p ∧ LstM K M H p vs ∧ Paired (A K M H) vs as
instance : Mono rInt := ⟨fun _ h => h⟩
instance : Mono rBl := ⟨fun _ h => h⟩
instance : Mono rNon := ⟨fun _ h => h⟩
instance : Mono rFr := ⟨fun t ⟨p, e, h⟩ => ⟨p, e, h.mono t⟩⟩
instance {α β : Type} (A : Rp α) (B : Rp β) [Mono A] [Mono B] : Mono (rT2 A B) := ⟨fun t ⟨p, x, y, e, h, a, b⟩ => ⟨p, x, y, e, h.mono t, Mono.mono t a, Mono.mono t b⟩⟩
instance {α : Type} (A : Rp α) [Mono A] : Mono (rL A) := ⟨fun t ⟨p, vs, e, h, a⟩ => ⟨p, vs, e, h.mono t, Prd.monoR (fun _ _ z => Mono.mono t z) a⟩⟩

/-! ## steps of a reading -/
/-- a tuple, a list comes to stand -/
def NewT (xs : List V) (H : Hp) (Q : VK) : Prop := xs.length ≤ sizeLine ∧ ∀ p, H p = none → Q (.ref p) (upd H p (.tup xs))
def NewL (xs : List V) (H : Hp) (Q : VK) : Prop := xs.length ≤ sizeLine ∧ ∀ p, H p = none → Q (.ref p) (upd H p (.lst xs))
section
variable {K : Fg} {M : Ms} {H H' : Hp} {σ : L2.St} {D : Ends} {Q : VK} {R : Bool → Hp → Prop} {t u : TS} {te ta tb : TE} {c c' : TT} {g : TG} {v x y : V} {i j : Int}
theorem s_seq (h : t { D with nx := u D } σ H) : tSeq t u D σ H := h
theorem s_next (h : D.nx σ H) : tNext D σ H := h
theorem s_asg (h : te σ H fun x H1 => g x σ H1 D.nx) : tAsg te g D σ H := h
theorem s_gname {i : Nat} {q : L2.St → Hp → Prop} (h : q (σ.set i (some v)) H) : gName i v σ H q := h
theorem s_ret (h : te σ H D.rt) : tRet te D σ H := h
theorem s_retN (h : D.rt .non H) : tRetN D σ H := h
theorem s_drop (h : te σ H fun _ H1 => D.nx σ H1) : tDrop te D σ H := h
theorem s_if (h : c σ H fun b H1 => if b = true then t D σ H1 else u D σ H1) : tIfS c t u D σ H := h
theorem s_brk (h : D.bk σ H) : tBreak D σ H := h
theorem s_cont (h : D.ct σ H) : tCont D σ H := h
theorem s_var {i : Nat} (e : σ[i]? = some (some v)) (h : Q v H) : tVar i σ H Q := ⟨v, e, h⟩
theorem s_c (h : Q v H) : tC v σ H Q := h
theorem s_op {r : R2} (h : ta σ H fun x H1 => tb σ H1 fun y H2 => r x y H2 Q) : tOp r ta tb σ H Q := h
theorem s_un {r : V → Hp → VK → Prop} (h : ta σ H fun x H1 => r x H1 Q) : tUn r ta σ H Q := h
theorem s_rI0 {f : Int → Int → V} (h : Q (f i j) H) : rI0 f (.int i) (.int j) H Q := ⟨i, j, rfl, rfl, h⟩
theorem s_rI {C : Int → Int → Prop} {f : Int → Int → V} (hc : C i j) (h : Q (f i j) H) : rI C f (.int i) (.int j) H Q := ⟨i, j, rfl, rfl, hc, h⟩
theorem s_rU {f : Int → V} (h : Q (f i) H) : rU f (.int i) H Q := ⟨i, rfl, h⟩
theorem s_test (h : te σ H fun x H' => ∃ k, x = .bl k ∧ R k H') : tTest te σ H R := h
theorem s_tB (h : te σ H fun x H' => ∃ k, x = .bl k ∧ R k H') : tB te σ H R := h
theorem s_bl {b : Bool} {q : Bool → Prop} (h : q b) : ∃ k, V.bl b = V.bl k ∧ q k := ⟨b, rfl, h⟩
theorem s_and (h : c σ H fun b H1 => if b = true then c' σ H1 R else R false H1) : tAnd c c' σ H R := h
theorem s_or (h : c σ H fun b H1 => if b = true then R true H1 else c' σ H1 R) : tOr c c' σ H R := h
theorem s_not (h : c σ H fun b H1 => R (!b) H1) : tNot c σ H R := h
theorem s_andV (h : ta σ H fun x H1 => ∃ c, x = .bl c ∧ if c = true then tb σ H1 Q else Q (.bl false) H1) : tAndV ta tb σ H Q := h
theorem s_orV (h : ta σ H fun x H1 => ∃ c, x = .bl c ∧ if c = true then Q (.bl true) H1 else tb σ H1 Q) : tOrV ta tb σ H Q := h
theorem s_notV (h : ta σ H fun x H1 => ∃ c, x = .bl c ∧ Q (.bl (!c)) H1) : tNotV ta σ H Q := h
theorem s_ifx (h : c σ H fun b H1 => if b = true then ta σ H1 Q else tb σ H1 Q) : tIf c ta tb σ H Q := h
theorem s_nil {q : List V → Hp → Prop} (h : q [] H) : tNil σ H q := h
theorem s_cons {tr : TA} {q : List V → Hp → Prop} (h : ta σ H fun x H1 => tr σ H1 fun xs H2 => q (x :: xs) H2) : tCons ta tr σ H q := h
theorem s_tup {t : TA} (h : t σ H fun xs H1 => NewT xs H1 Q) : tTup t σ H Q := h
theorem s_lst {t : TA} (h : t σ H fun xs H1 => NewL xs H1 Q) : tLst t σ H Q := h
theorem s_call {sp : Sp} {dvs : List V} {E : XK} {t : TA} (h : t σ H fun vs H1 => sp (vs ++ dvs) H1 Q E) : tCall sp dvs E t σ H Q := h
theorem s_cb {r : List V → Hp → VK → Prop} {t : TA} (h : t σ H fun vs H1 => r vs H1 Q) : tCB r t σ H Q := h
theorem s_ite {A B : Prop} {p : Prop} {dp : Decidable p} (h1 : p → A) (h2 : ¬ p → B) : if decide p = true then A else B := by
  by_cases e : p
  · rw [if_pos (decide_eq_true e)]; exact h1 e
  · rw [if_neg (by simpa using e)]; exact h2 e
theorem s_iteN {A B : Prop} {p : Prop} {dp : Decidable p} (h1 : ¬ p → A) (h2 : p → B) : if (!decide p) = true then A else B := by
  by_cases e : p
  · rw [if_neg (by simpa using e)]; exact h2 e
  · rw [if_pos (by simpa using e)]; exact h1 e
theorem s_iteB {A B : Prop} {b : Bool} (h1 : b = true → A) (h2 : b = false → B) : if b = true then A else B := by
  cases b with
  | true => rw [if_pos rfl]; exact h1 rfl
  | false => rw [if_neg Bool.false_ne_true]; exact h2 rfl
theorem s_iteT {A B : Prop} (h : A) : if true = true then A else B := by rw [if_pos rfl]; exact h
theorem s_iteF {A B : Prop} (h : B) : if false = true then A else B := by rw [if_neg Bool.false_ne_true]; exact h
/-- items -/
theorem atI0 {α : Type} {a : α} {l : List α} : atI (a :: l) 0 = some a := by
  show atI (a :: l) ((0 : Nat) : Int) = some a
  exact atI_nat rfl
theorem atI1 {α : Type} {a b : α} {l : List α} : atI (a :: b :: l) 1 = some b := by
  show atI (a :: b :: l) ((1 : Nat) : Int) = some b
  exact atI_nat rfl
theorem s_fr0 {q : Rat} (e : rFr K M H x q) (h : Q (.int q.num) H) : rIx K x (.int 0) H Q := by
  obtain ⟨p, rfl, z⟩ := e
  exact .inr (.inl ⟨p, _, 0, _, rfl, rfl, z.sq, atI0, h⟩)
theorem s_fr1 {q : Rat} (e : rFr K M H x q) (h : Q (.int q.den) H) : rIx K x (.int 1) H Q := by
  obtain ⟨p, rfl, z⟩ := e
  exact .inr (.inl ⟨p, _, 1, _, rfl, rfl, z.sq, atI1, h⟩)
theorem s_t20 {α β : Type} {A : Rp α} {B : Rp β} {ab : α × β} (e : rT2 A B K M H x ab) (h : ∀ y, A K M H y ab.1 → Q y H) : rIx K x (.int 0) H Q := by
  obtain ⟨p, y, z, rfl, w, a, b⟩ := e
  exact .inr (.inl ⟨p, _, 0, _, rfl, rfl, w.sq, atI0, h _ a⟩)
theorem s_t21 {α β : Type} {A : Rp α} {B : Rp β} {ab : α × β} (e : rT2 A B K M H x ab) (h : ∀ y, B K M H y ab.2 → Q y H) : rIx K x (.int 1) H Q := by
  obtain ⟨p, y, z, rfl, w, a, b⟩ := e
  exact .inr (.inl ⟨p, _, 1, _, rfl, rfl, w.sq, atI1, h _ b⟩)
theorem len2 {α : Type} {a b : α} : [a, b].length ≤ sizeLine := by show 2 ≤ sizeLine; decide
/-- a new tuple of two ints -/
theorem s_newT {a b : Int} (w : Own M H) (h : ∀ p H', Same H H' → Own M H' → TupM K M H' p [.int a, .int b] → Q (.ref p) H') :
    NewT [V.int a, V.int b] H Q :=
  ⟨len2, fun p n => h p _ (Same.upd_new n) (w.same (Same.upd_new n)) (.inl ⟨w.fresh n, upd_same⟩)⟩
theorem s_newT2 {α β : Type} {A : Rp α} {B : Rp β} [Mono A] [Mono B] {a : α} {b : β} (w : Own M H) (ha : A K M H x a) (hb : B K M H y b) (h : ∀ p H', Same H H' → Own M H' → rT2 A B K M H' p (a, b) → Q p H') :
    NewT [x, y] H Q :=
  ⟨len2, fun p n => h _ _ (Same.upd_new n) (w.same (Same.upd_new n)) ⟨p, x, y, rfl, .inl ⟨w.fresh n, upd_same⟩, Rp.same (Same.upd_new n) ha, Rp.same (Same.upd_new n) hb⟩⟩
end


/-! ## operators by what they meet -/
section
variable {X : Cx}
def rAddA (K : Fg) : R2 := fun x y H Q => rI0 (fun i j => .int (i + j)) x y H Q ∨ rCat x y H Q ∨ rCatT K x y H Q
theorem opAdd : OpR X (binaryOp .Add) (rAddA X.K) := op_add.or (op_cat.or op_catT)
def rMulA : R2 := fun x y H Q => rI CMulW (fun i j => .int (i * j)) x y H Q ∨ rRep x y H Q
theorem opMul : OpR X (binaryOp .Mult) rMulA := op_mulW.or op_rep
def rAbs : List V → Hp → VK → Prop := fun xs H Q => ∃ i, xs = [.int i] ∧ Q (.int (if i < 0 then -i else i)) H
theorem callAbs : CallR X (.builtin "abs") rAbs := call_abs
def rLen (K : Fg) : List V → Hp → VK → Prop := fun xs H Q => ∃ x n, xs = [x] ∧ LenV K x H n ∧ Q (.int n) H
theorem callLen : CallR X (.builtin "len") (rLen X.K) := call_len
def rMin2 : List V → Hp → VK → Prop := fun xs H Q => ∃ i j, xs = [.int i, .int j] ∧ Q (.int (if j < i then j else i)) H
theorem callMin (hc : X.calm = true) : CallR X (.builtin "min") rMin2 := call_min2 hc
def rMax2 : List V → Hp → VK → Prop := fun xs H Q => ∃ i j, xs = [.int i, .int j] ∧ Q (.int (if j > i then j else i)) H
theorem callMax (hc : X.calm = true) : CallR X (.builtin "max") rMax2 := call_max2 hc
def rIntC : List V → Hp → VK → Prop := fun xs H Q => (∃ i, xs = [.int i] ∧ Q (.int i) H) ∨ ∃ k, xs = [.bl k] ∧ Q (.int (if k then 1 else 0)) H
theorem callInt : CallR X (.type "int") rIntC := call_int1
def rListC (K : Fg) : List V → Hp → VK → Prop := fun xs H Q => ∃ p ys, xs = [.ref p] ∧ (SqL K H p ys ∨ SqT K H p ys) ∧ ∀ l, H l = none → Q (.ref l) (upd H l (.lst ys))
theorem callList : CallR X (.type "list") (rListC X.K) := call_list_of
def CDivX (_ j : Int) : Prop := j ≠ 0 ∧ j.natAbs.log2 < 9000
def rDivX : R2 := rI CDivX fun i j => .int (i.fdiv j)
theorem opDiv : OpR X (binaryOp .FloorDiv) rDivX := opI fun i j _ _ _ _ _ hc q => floordiv_int hc.1 q (.inl (PyProof.noPylong_of_log2 hc.2))
def rEqA (K : Fg) : R2 := fun x y H Q => rEq x y H Q ∨ rEqD K x y H Q
def rNeA (K : Fg) : R2 := fun x y H Q => rNe x y H Q ∨ rNeD K x y H Q
theorem opEq (hu : X.A.units + 64 < cLine) : OpR X (compareOp .Eq) (rEqA X.K) := op_eq.or (op_eqD hu)
theorem opNe (hu : X.A.units + 64 < cLine) : OpR X (compareOp .NotEq) (rNeA X.K) := op_ne.or (op_neD hu)
def rIsNotB : R2 := fun x y H Q => ∃ a b : Bool, x = .bl a ∧ y = .bl b ∧ Q (.bl (!decide (a = b))) H
theorem opIsNotBl : OpR X (compareOp .IsNot) rIsNotB := by
  intro pins s σ H x y v u Q I rx ry h
  obtain ⟨a, b, rfl, rfl, q⟩ := h
  cases (show v = Value.bool a from rx)
  cases (show u = Value.bool b from ry)
  by_cases e : a = b
  · subst e
    exact wpAny_isNot_self rfl ⟨.bl false, H, I, rfl, by simpa using q⟩
  · exact wpAny_isNot_other rfl (fun z => e (Value.bool.inj z)) ⟨.bl true, H, I, rfl, by simpa [e] using q⟩
end

/-! ## a callee by its promise -/
structure Cal (P : Program) (w : World) (K : Fg) (mg : Str → Option Value) (base : Heap) (CX : CXT) (k : Nat) (x : Str) (ps : List Str) (dvs : List V) (sp : Sp) : Prop where
  ex : ∃ (f : Addr) (fd : FuncData) (ds : List Value), FnOk P w K mg base CX k f fd ps sp ∧ mg x = some (.ref f) ∧ PySem.W.keepIn K (.ref f) = true ∧ Binds K fd ps ds ∧ Vals dvs ds
theorem pe_cal {X : Cx} {CX : CXT} {k : Nat} {x : Str} {ps : List Str} {dvs : List V} {sp : Sp} {E : XK} {p pos : Pos} {e : Expr} {es : List Expr} {t : TA}
    (G : Cal X.prog X.w X.K X.mg X.base CX k x ps dvs sp) (hr : Room k X.A) (hg : Gl X x) (hx : Passes CX X E)
    (ha : PA X (e :: es) t) (hdb : (x == ("__debug__" : Str)) = false := by decide) (he : starEach (e :: es) X.env = (false, eval e X.env) :: starEach es X.env := by rfl) (hpl : (backTo pos (starEach es X.env)).any (·.1) = false := by rfl) :
    PE X (.Call (.Name x p) (e :: es) [] pos) (tCall sp dvs E t) := by
  obtain ⟨f, fd, ds, F, hm, hk, hb, hd⟩ := G.ex
  exact pe_call F hr hg hm hk hb hd hx ha hdb he hpl
theorem Cal.mk' {P : Program} {w : World} {K : Fg} {mg : Str → Option Value} {base : Heap} {CX : CXT} {k : Nat} {x : Str} {ps : List Str} {sp : Sp} {f : Addr} {fd : FuncData}
    (F : FnOk P w K mg base CX k f fd ps sp) (hm : mg x = some (.ref f)) (hk : PySem.W.keepIn K (.ref f) = true) (hb : Binds K fd ps []) : Cal P w K mg base CX k x ps [] sp := ⟨f, fd, [], F, hm, hk, hb, .nil⟩

/-! ## steps by what is met -/
section
variable {K : Fg} {M : Ms} {H H' : Hp} {σ : L2.St} {Q : VK} {R : Bool → Hp → Prop} {te ta tb : TE} {v x y : V} {i j : Int} {b c : Bool}
theorem s_addI (h : Q (.int (i + j)) H) : rAddA K (.int i) (.int j) H Q := .inl ⟨i, j, rfl, rfl, h⟩
theorem s_mulI (hc : CMulW i j) (h : Q (.int (i * j)) H) : rMulA (.int i) (.int j) H Q := .inl ⟨i, j, rfl, rfl, hc, h⟩
theorem s_divI (hc : CDivX i j) (h : Q (.int (i.fdiv j)) H) : rDivX (.int i) (.int j) H Q := ⟨i, j, rfl, rfl, hc, h⟩
theorem s_eqI (h : Q (.bl (decide (i = j))) H) : rEqA K (.int i) (.int j) H Q := .inl ⟨rfl, by
  have e : decide (V.int i = V.int j) = decide (i = j) := by rw [dec_int, Bool.beq_eq_decide_eq]
  rw [e]; exact h⟩
theorem s_neI (h : Q (.bl (!decide (i = j))) H) : rNeA K (.int i) (.int j) H Q := .inl ⟨rfl, by
  have e : decide (V.int i = V.int j) = decide (i = j) := by rw [dec_int, Bool.beq_eq_decide_eq]
  rw [e]; exact h⟩
theorem s_eqB (h : Q (.bl (decide (b = c))) H) : rEqA K (.bl b) (.bl c) H Q := .inl ⟨rfl, by
  have e : decide (V.bl b = V.bl c) = decide (b = c) := by rw [dec_bl, Bool.beq_eq_decide_eq]
  rw [e]; exact h⟩
theorem s_neB (h : Q (.bl (!decide (b = c))) H) : rNeA K (.bl b) (.bl c) H Q := .inl ⟨rfl, by
  have e : decide (V.bl b = V.bl c) = decide (b = c) := by rw [dec_bl, Bool.beq_eq_decide_eq]
  rw [e]; exact h⟩
theorem s_isB (h : Q (.bl (decide (b = c))) H) : rIsB (.bl b) (.bl c) H Q := ⟨b, c, rfl, rfl, h⟩
theorem s_isNB (h : Q (.bl (!decide (b = c))) H) : rIsNotB (.bl b) (.bl c) H Q := ⟨b, c, rfl, rfl, h⟩
theorem s_abs (h : Q (.int (i.natAbs : Nat)) H) : rAbs [V.int i] H Q := ⟨i, rfl, by
  have e : (if i < 0 then -i else i) = ((i.natAbs : Nat) : Int) := by split <;> omega
  rw [e]; exact h⟩
theorem s_gcd {i j : Int} (h : Q (.int ((Nat.gcd i.natAbs j.natAbs : Nat) : Int)) H) : rGcd [.int i, .int j] H Q := ⟨i, j, rfl, h⟩
theorem cmul_of {a b : Nat} {i j : Int} (ha : Bd a i) (hb : Bd b j) (h : a + b ≤ 999998) : CMulW i j := wide_mul (a := a + 1) (b := b + 1) (ha.mono (by omega)) (hb.mono (by omega)) (by omega) (by omega) (by omega)
theorem cdiv_of {a : Nat} {i j : Int} (h : j ≠ 0) (ha : Bd a j) (l : a < 9000) : CDivX i j := ⟨h, Nat.lt_of_lt_of_le (PySem.Flt.log2_lt_of (by omega) (ha.mono (Nat.le_succ a))) (by omega)⟩
end
/-! ## data that is compared -/
class Eqd {α : Type} (R : Rp α) where
  d : α → PyData
  dp : ∀ {K M H v a}, R K M H v a → Dp K H v (d a)
  sh : ∀ a, (d a).canLay0 = true
  dep : Nat
  de : ∀ a, (d a).depth ≤ dep
class EqdL {α : Type} (R : Rp α) [i : Eqd R] : Prop where
  inj : ∀ a b, PyData.eqv (i.d a) (i.d b) = true ↔ a = b
theorem eqv_int (i j : Int) : PyData.eqv (.int i) (.int j) = decide (i = j) := by rw [PyData.eqv, Bool.beq_eq_decide_eq]
instance : Eqd rInt := ⟨fun i => .int i, fun h => by cases h; exact .int _, fun _ => rfl, 0, fun _ => Nat.le_of_eq rfl⟩
instance : EqdL rInt := ⟨fun a b => by show PyData.eqv (.int a) (.int b) = true ↔ _; rw [eqv_int]; simp⟩
instance : Eqd rFr := ⟨fun q => .tuple [.int q.num, .int q.den], fun h => by
  obtain ⟨p, rfl, z⟩ := h
  exact .tup z.sq (.cons (.int _) (.cons (.int _) .nil)), fun _ => rfl, 1, fun _ => Nat.le_of_eq rfl⟩
instance : EqdL rFr := ⟨fun a b => by
  show PyData.eqv (.tuple [.int a.num, .int a.den]) (.tuple [.int b.num, .int b.den]) = true ↔ _
  rw [PyData.eqv, PyData.eqvAll, PyData.eqvAll, PyData.eqvAll, eqv_int, eqv_int]
  simp only [Bool.and_true, Bool.and_eq_true, decide_eq_true_eq]
  exact ⟨fun h => q_ext h.1 h.2, fun h => by subst h; exact ⟨rfl, rfl⟩⟩⟩

theorem dp_all {α : Type} {A : Rp α} [i : Eqd A] {K : Fg} {M : Ms} {H : Hp} : ∀ {vs : List V} {as : List α}, Paired (A K M H) vs as → DpAll K H vs (as.map i.d)
  | _, _, .nil => .nil
  | _, _, .cons r t => .cons (i.dp r) (dp_all t)
theorem lay_all {α : Type} {A : Rp α} [i : Eqd A] : ∀ as : List α, PyData.canLayAll0 (as.map i.d) = true
  | [] => rfl
  | a :: as => by
    show PyData.canLayAll0 (i.d a :: as.map i.d) = true
    rw [PyData.canLayAll0, i.sh a, lay_all as] <;> rfl
theorem dep_all {α : Type} {A : Rp α} [i : Eqd A] : ∀ as : List α, PyData.depthAll (as.map i.d) ≤ i.dep
  | [] => Nat.zero_le _
  | a :: as => by
    show PyData.depthAll (i.d a :: as.map i.d) ≤ _
    rw [PyData.depthAll]
    exact Nat.max_le.mpr ⟨i.de a, dep_all as⟩
instance {α : Type} {A : Rp α} [i : Eqd A] : Eqd (rL A) := ⟨fun as => .list (as.map i.d), fun h => by
  obtain ⟨p, vs, rfl, z, r⟩ := h
  exact .lst z.sq (dp_all r), fun as => by rw [PyData.canLay0]; exact lay_all as, i.dep + 1, fun as => by rw [PyData.depth]; exact Nat.succ_le_succ (dep_all as)⟩
theorem eqv_all {α : Type} {A : Rp α} [i : Eqd A] [j : EqdL A] : ∀ as bs : List α, PyData.eqvAll (as.map i.d) (bs.map i.d) = true ↔ as = bs
  | [], [] => by show PyData.eqvAll [] [] = true ↔ _; rw [PyData.eqvAll]; simp
  | [], b :: bs => by show PyData.eqvAll [] (i.d b :: bs.map i.d) = true ↔ _; rw [PyData.eqvAll]; simp
  | a :: as, [] => by show PyData.eqvAll (i.d a :: as.map i.d) [] = true ↔ _; rw [PyData.eqvAll]; simp
  | a :: as, b :: bs => by
    show PyData.eqvAll (i.d a :: as.map i.d) (i.d b :: bs.map i.d) = true ↔ _
    rw [PyData.eqvAll, Bool.and_eq_true, j.inj a b, eqv_all as bs]
    simp
instance {α : Type} {A : Rp α} [i : Eqd A] [j : EqdL A] : EqdL (rL A) := ⟨fun as bs => by
  show PyData.eqv (.list (as.map i.d)) (.list (bs.map i.d)) = true ↔ _
  rw [PyData.eqv]; exact eqv_all as bs⟩
instance {α β : Type} {A : Rp α} {B : Rp β} [i : Eqd A] [j : Eqd B] : Eqd (rT2 A B) := ⟨fun ab => .tuple [i.d ab.1, j.d ab.2], fun h => by
  obtain ⟨p, x, y, rfl, z, a, b⟩ := h
  exact .tup z.sq (.cons (i.dp a) (.cons (j.dp b) .nil)), fun ab => by rw [PyData.canLay0, PyData.canLayAll0, PyData.canLayAll0, PyData.canLayAll0, i.sh, j.sh] <;> rfl, max i.dep j.dep + 1, fun ab => by
    rw [PyData.depth, PyData.depthAll, PyData.depthAll, PyData.depthAll]
    have h1 := i.de ab.1
    have h2 := j.de ab.2
    omega⟩
instance {α β : Type} {A : Rp α} {B : Rp β} [i : Eqd A] [j : Eqd B] [k : EqdL A] [l : EqdL B] : EqdL (rT2 A B) := ⟨fun a b => by
  show PyData.eqv (.tuple [i.d a.1, j.d a.2]) (.tuple [i.d b.1, j.d b.2]) = true ↔ _
  rw [PyData.eqv, PyData.eqvAll, PyData.eqvAll, PyData.eqvAll, Bool.and_true, Bool.and_eq_true, k.inj, l.inj]
  exact ⟨fun h => Prod.ext h.1 h.2, fun h => by subst h; exact ⟨rfl, rfl⟩⟩⟩
theorem shaped_of {α : Type} {R : Rp α} [i : Eqd R] (h : i.dep ≤ 64) (a : α) : SeqAt.shaped (i.d a) = true := by
  unfold SeqAt.shaped
  rw [i.sh a, decide_eq_true (Nat.le_trans (i.de a) h)] <;> rfl
section
variable {α : Type} {A : Rp α} [i : Eqd A] [j : EqdL A] [DecidableEq α] {K : Fg} {M N : Ms} {H : Hp} {x y : V} {a b : α} {Q : VK}
theorem eqv_dec (a b : α) : PyData.eqv (i.d a) (i.d b) = decide (a = b) := by
  rw [Bool.eq_iff_iff, j.inj a b, decide_eq_true_eq]
theorem s_eqD (ha : A K M H x a) (hb : A K N H y b) (h : Q (.bl (decide (a = b))) H) (hd : i.dep ≤ 64 := by decide) : rEqA K x y H Q :=
  .inr ⟨i.d a, i.d b, i.dp ha, i.dp hb, shaped_of hd a, shaped_of hd b, by rw [eqv_dec]; exact h⟩
theorem s_neD (ha : A K M H x a) (hb : A K N H y b) (h : Q (.bl (!decide (a = b))) H) (hd : i.dep ≤ 64 := by decide) : rNeA K x y H Q :=
  .inr ⟨i.d a, i.d b, i.dp ha, i.dp hb, shaped_of hd a, shaped_of hd b, by rw [eqv_dec]; exact h⟩
end

/-! ## lists that are made, measured, read -/
section
variable {α : Type} {A : Rp α} {K : Fg} {M : Ms} {H : Hp} {x y : V} {as : List α} {Q : VK}
theorem s_newL [Mono A] {vs : List V} (w : Own M H) (hl : vs.length ≤ sizeLine) (hp : Paired (A K M H) vs as) (h : ∀ v H', Same H H' → rL A K M H' v as → Q v H') :
    NewL vs H Q :=
  ⟨hl, fun p n => h _ _ (Same.upd_new n) ⟨p, vs, rfl, .inl ⟨w.fresh n, .inl upd_same⟩, Prd.monoR (fun _ _ z => Rp.same (Same.upd_new n) z) hp⟩⟩
theorem s_len (h : rL A K M H x as) (k : Q (.int as.length) H) : rLen K [x] H Q := by
  obtain ⟨p, vs, rfl, z, r⟩ := h
  exact ⟨_, vs.length, rfl, .inl ⟨vs, z.sq, rfl⟩, by rw [Prd.len r]; exact k⟩
theorem s_ixL {i : Int} {j : Nat} {a : α} (h : rL A K M H x as) (hj : as[j]? = some a) (e : ixN as.length i = some j) (k : ∀ y, A K M H y a → Q y H) : rIx K x (.int i) H Q := by
  obtain ⟨p, vs, rfl, z, r⟩ := h
  obtain ⟨y, e1, e2⟩ := Prd.get r hj
  exact .inl ⟨p, vs, i, y, rfl, rfl, z.sq, by unfold atI; rw [Prd.len r, e]; exact e1, k y e2⟩
theorem ixN_nat {n j : Nat} (h : j < n) : ixN n (j : Int) = some j := by
  unfold ixN
  rw [if_pos (by omega), if_pos (by omega)]
  rfl
theorem ixN_pos {n : Nat} {i : Int} (h0 : 0 ≤ i) (h : i < n) : ixN n i = some i.toNat := by
  unfold ixN
  rw [if_pos h0, if_pos h]
end

section
variable {K : Fg} {M : Ms} {H : Hp} {Q : VK}
theorem s_newFr {r : Rat} {a b : Int} (w : Own M H) (e1 : r.num = a) (e2 : (r.den : Int) = b) (h : ∀ v H', Same H H' → rFr K M H' v r → Q v H') :
    NewT [V.int a, V.int b] H Q :=
  s_newT w fun p H' s o t => h _ _ s ⟨p, rfl, by rw [e1, e2]; exact t⟩
end
theorem s_next' {D : Ends} {σ : L2.St} {H : Hp} {t : TS} (h : t D σ H) : t D σ H := h
section
variable {K : Fg} {M : Ms} {H : Hp} {Q : VK} {σ : L2.St} {D : Ends} {i j : Int} {v w z : V}
theorem s_par {a b : Nat} {ta : TA} (h : ta σ H fun vs H1 => ∃ v w, vs = [v, w] ∧ D.nx ((σ.set a (some v)).set b (some w)) H1) : tPar a b ta D σ H := h
theorem s_par3 {a b c : Nat} {ta : TA} (h : ta σ H fun vs H1 => ∃ u v w, vs = [u, v, w] ∧ D.nx (((σ.set a (some u)).set b (some v)).set c (some w)) H1) : tPar3 a b c ta D σ H := h
theorem s_ex2 {q : V → V → Prop} (h : q v w) : ∃ v' w', [v, w] = [v', w'] ∧ q v' w' := ⟨v, w, rfl, h⟩
theorem s_ex3 {q : V → V → V → Prop} (h : q v w z) : ∃ v' w' z', [v, w, z] = [v', w', z'] ∧ q v' w' z' := ⟨v, w, z, rfl, h⟩
theorem s_modI {f : Int → Int → V} (hc : j ≠ 0) (h : Q (f i j) H) : rI (fun _ j => j ≠ 0) f (.int i) (.int j) H Q := ⟨i, j, rfl, rfl, hc, h⟩
theorem s_powI {f : Int → Int → V} (hc : CPow i j) (h : Q (f i j) H) : rI CPow f (.int i) (.int j) H Q := ⟨i, j, rfl, rfl, hc, h⟩
theorem mono_ne {c : V} {a : Nat} {σ : L2.St} {H : Hp} {Q Q' : Bool → Hp → Prop} (hq : ∀ b H1, Q b H1 → Q' b H1) (hc : tTest (tOp (rNeA K) (tVar a) (tC c)) σ H Q) : tTest (tOp (rNeA K) (tVar a) (tC c)) σ H Q' := by
  obtain ⟨v, e, hc⟩ := hc
  refine ⟨v, e, ?_⟩
  rcases hc with ⟨h1, k1, h2, h3⟩ | ⟨d1, e1, h1, h2, h3, h4, k1, h5, h6⟩
  · exact .inl ⟨h1, k1, h2, hq _ _ h3⟩
  · exact .inr ⟨d1, e1, h1, h2, h3, h4, k1, h5, hq _ _ h6⟩
end
section
variable {K : Fg} {M : Ms} {H : Hp} {Q : VK} {i j : Int} {b : Bool}
theorem s_min (h : Q (.int (min i j)) H) : rMin2 [.int i, .int j] H Q := ⟨i, j, rfl, by
  have e : (if j < i then j else i) = min i j := by split <;> omega
  rw [e]; exact h⟩
theorem s_max (h : Q (.int (max i j)) H) : rMax2 [.int i, .int j] H Q := ⟨i, j, rfl, by
  have e : (if j > i then j else i) = max i j := by split <;> omega
  rw [e]; exact h⟩
theorem s_intI (h : Q (.int i) H) : rIntC [.int i] H Q := .inl ⟨i, rfl, h⟩
theorem s_intB (h : Q (.int (if b then 1 else 0)) H) : rIntC [.bl b] H Q := .inr ⟨b, rfl, h⟩
end

theorem cxK {CX : CXT} {P : Program} {w : World} {K : Fg} {mg : Str → Option Value} {base : Heap} {N : List Str} {qual : Str} {scope : Scope} {f : Addr} {cd : Value} {A : Around} {outer : List Env} {s : Shared} {H : Hp} {E : XK} :
    (cxOf CX P w K mg base N qual scope f cd A outer s H E).nox.K = K := rfl
theorem cxK2 {CX : CXT} {P : Program} {w : World} {K : Fg} {mg : Str → Option Value} {base : Heap} {N : List Str} {qual : Str} {scope : Scope} {f : Addr} {cd : Value} {A : Around} {outer : List Env} {s : Shared} {H : Hp} {E : XK} :
    (cxOf CX P w K mg base N qual scope f cd A outer s H E).K = K := rfl
/-! ## list comprehensions -/
/-- what is left of a comprehension when its source's value has come -/
def LcK (K : Fg) (x : V) (g : TG) (tt : TT) (te : TE) (vs : List Nat) (σ : L2.St) (H1 : Hp) (Q : VK) : Prop := ∃ a, x = .ref a ∧ (∃ xs, SqL K H1 a xs) ∧ ∀ D, H1 D = none → ∃ W : Nat → Nat → Hp → Prop, (∃ m, W 0 m (upd H1 D (.lst []))) ∧ ∀ i m H, W i m H →
  ((Itl K a).stop i H ∧ Q (.ref D) H) ∨ ((Itl K a).go i H ∧ ∃ Nx : Hp → Prop, (∀ H', Nx H' → ∃ m', m' < m ∧ W (i + 1) m' H') ∧ ∀ x H', (Itl K a).yld i H x H' → g x (wipe σ vs) H' fun σ2 H2 => wipe σ2 vs = wipe σ vs ∧ tt σ2 H2 fun b H3 =>
    if b = true then te σ2 H3 fun y H4 => ∃ acc, H4 D = some (.lst acc) ∧ acc.length < sizeLine ∧ Nx (upd H4 D (.lst (acc ++ [y]))) else Nx H3)
theorem s_lc {K : Fg} {tl : TE} {g : TG} {tt : TT} {te : TE} {vs : List Nat} {σ : L2.St} {H : Hp} {Q : VK} (h : tl σ H fun x H1 => LcK K x g tt te vs σ H1 Q) : tLc (iList K tl) g tt te vs σ H Q := h

theorem small_line {n : Nat} (h : n < 100000) : n < sizeLine := Nat.lt_of_lt_of_le h (by decide)
section
variable {α β : Type} {A : Rp α} {B : Rp β} [Mono A] [Mono B] {K : Fg} {M : Ms} {g : TG} {tt : TT} {te : TE} {vs : List Nat} {σ : L2.St} {H1 : Hp} {Q : VK}
/-- one turn of a comprehension, by what follows it (Z: the element is kept; N: it is not) -/
def LcTurn (g : TG) (tt : TT) (te : TE) (vs : List Nat) (σ : L2.St) (H2 : Hp) (v : V) (Z : VK) (N : Hp → Prop) : Prop :=
  g v (wipe σ vs) H2 fun σ2 H2' => wipe σ2 vs = wipe σ vs ∧ tt σ2 H2' fun d H3 => if d = true then te σ2 H3 Z else N H3
/-- the world within: the list that is made may change, too -/
def mIn (M : Ms) (D : Addr) : Ms := fun b => M b ∨ b = D
theorem Tr.inside {M : Ms} {H H' : Hp} {D : Addr} (s : Same H H') (n : H D = none) : Tr M H (mIn M D) H' := fun b o e m => ⟨s b o e, fun z => z.elim m fun q => by subst q; rw [n] at e; cases e⟩
theorem Tr.outside {M : Ms} {H : Hp} {D : Addr} : Tr (mIn M D) H M H := fun b o e m => ⟨e, fun z => m (.inl z)⟩
theorem Tr.updM {M : Ms} {H : Hp} {D : Addr} {o : HO} : Tr (mIn M D) H (mIn M D) (upd H D o) := fun b u e m => ⟨by rw [upd_ne (fun q => m (.inr q))]; exact e, m⟩
theorem Own.inside {M : Ms} {H H' : Hp} {D : Addr} {o : HO} (w : Own M H) (s : Same H H') (h : H' D = some o) : Own (mIn M D) H' := fun b m z => m.elim (fun q => (w.same s) b q z) fun q => by subst q; rw [h] at z; cases z
theorem Own.updM {M : Ms} {H : Hp} {D : Addr} {o : HO} (w : Own (mIn M D) H) : Own (mIn M D) (upd H D o) := fun b m z => by
  by_cases e : b = D
  · subst e; rw [upd_same] at z; cases z
  · rw [upd_ne e] at z; exact w b m z
theorem Same.into {H H1 : Hp} {D : Addr} {o : HO} (s : Same H H1) (n : H D = none) : Same H (upd H1 D o) := fun b u e => by
  rw [upd_ne (ne_of_none e n)]; exact s b u e
theorem lc_map (as : List α) (c : α → Bool) (f : α → β) {x : V} (hx : rL A K M H1 x as) (w : Own M H1) (hn : as.length < 100000)
    (hs : ∀ (i : Nat) (a : α) (v : V) (M' : Ms) (H2 : Hp) (Z : VK) (N : Hp → Prop), as[i]? = some a → Tr M H1 M' H2 → Own M' H2 → A K M' H2 v a →
      (c a = true → ∀ y H4, Same H2 H4 → B K M' H4 y (f a) → Z y H4) → (c a = false → ∀ H3, Same H2 H3 → N H3) → LcTurn g tt te vs σ H2 v Z N)
    (h : ∀ D vs' H', H1 D = none → Same H1 H' → H' D = some (.lst vs') → Paired (B K M H') vs' ((as.filter c).map f) → rL B K M H' (.ref D) ((as.filter c).map f) → Q (.ref D) H') : LcK K x g tt te vs σ H1 Q := by
  obtain ⟨a, vs', rfl, hl, hp⟩ := hx
  refine ⟨a, rfl, ⟨vs', hl.sq⟩, fun D hD => ?_⟩
  have el : vs'.length = as.length := Prd.len hp
  refine lc_list (K := K) (a := a) (xs := vs') (fun i H => ∃ acc, H D = some (.lst acc) ∧ Same H1 H ∧ Paired (B K (mIn M D) H) acc (((as.take i).filter c).map f)) ?_ ?_ ?_ ?_
  · exact ⟨[], upd_same, Same.upd_new hD, .nil⟩
  · rintro i H _ ⟨acc, e, s, _⟩
    exact (hl.mono (Tr.inside s hD) : LstM K (mIn M D) H a vs').sq
  · rintro i v H hv ⟨acc, e, s, p⟩
    obtain ⟨b, hb, r⟩ := Prd.getL hp hv
    have hi : i < as.length := (List.getElem?_eq_some_iff.mp hb).1
    have et : (as.take (i + 1)) = as.take i ++ [b] := by
      rw [List.take_succ, hb]
      rfl
    have la : acc.length < sizeLine := small_line (by
      rw [Prd.len p, List.length_map]
      have h1 := List.length_filter_le c (as.take i)
      have h2 := List.length_take_le i as
      omega)
    refine hs i b v (mIn M D) H _ _ hb (Tr.inside s hD) (w.inside s e) (Mono.mono (Tr.inside s hD) r) (fun hc y H4 s4 hy => ?_) (fun hc H3 s3 => ?_)
    · refine ⟨acc, s4 _ _ e, la, acc ++ [y], upd_same, Same.into (Same.trans s s4) hD, ?_⟩
      rw [et, List.filter_append, List.map_append, show [b].filter c = [b] by simp [hc]]
      exact Prd.snoc (Mono.mono Tr.updM hy) (Prd.monoR (fun _ _ z => Mono.mono Tr.updM (Rp.same s4 z)) p)
    · refine ⟨acc, s3 _ _ e, s.trans s3, ?_⟩
      rw [et, List.filter_append, show [b].filter c = [] by simp [hc], List.append_nil]
      exact Prd.monoR (fun _ _ z => Rp.same s3 z) p
  · rintro H ⟨acc, e, s, p⟩
    rw [el, List.take_length] at p
    have p' := Prd.monoR (fun _ _ z => Mono.mono Tr.outside z) p
    exact h _ _ _ hD s e p' ⟨D, acc, rfl, .inl ⟨w.fresh hD, .inl e⟩, p'⟩
theorem s_lct {H2 : Hp} {v : V} {Z : VK} {N : Hp → Prop} (h : g v (wipe σ vs) H2 fun σ2 H2' => wipe σ2 vs = wipe σ vs ∧ tt σ2 H2' fun d H3 => if d = true then te σ2 H3 Z else N H3) : LcTurn g tt te vs σ H2 v Z N := h
theorem s_yes {R : Bool → Hp → Prop} (h : R true H1) : tYes σ H1 R := h
theorem s_wipe {p : Prop} {σ2 : L2.St} (e : σ = σ2) (h : p) : σ = σ2 ∧ p := ⟨e, h⟩
end

/-! ## the law's draws -/
def kLarge : Key := .inr "large"
def kItems : Key := .inr "items"
def kLeft : Key := .inr "left"
def kTurn : Key := .inr "turn"
def drawK (l i : Addr) (x t : Int) : List (Key × V) := [(kLarge, .ref l), (kItems, .ref i), (kLeft, .int x), (kTurn, .int t)]
theorem kne : kLarge ≠ kItems ∧ kLarge ≠ kLeft ∧ kLarge ≠ kTurn ∧ kItems ≠ kLeft ∧ kItems ≠ kTurn ∧ kLeft ≠ kTurn := by decide +kernel
theorem draw_large {l i : Addr} {x t : Int} : valV (drawK l i x t) kLarge = some (.ref l) := valV_pos rfl
theorem draw_items {l i : Addr} {x t : Int} : valV (drawK l i x t) kItems = some (.ref i) := by
  obtain ⟨h1, h2, h3, h4, h5, h6⟩ := kne
  exact (valV_neg h1).trans (valV_pos rfl)
theorem draw_left {l i : Addr} {x t : Int} : valV (drawK l i x t) kLeft = some (.int x) := by
  obtain ⟨h1, h2, h3, h4, h5, h6⟩ := kne
  exact (valV_neg h2).trans ((valV_neg h4).trans (valV_pos rfl))
theorem draw_turn {l i : Addr} {x t : Int} : valV (drawK l i x t) kTurn = some (.int t) := by
  obtain ⟨h1, h2, h3, h4, h5, h6⟩ := kne
  exact (valV_neg h3).trans ((valV_neg h5).trans ((valV_neg h6).trans (valV_pos rfl)))
theorem put_left {l i : Addr} {x t y : Int} : putK (drawK l i x t) kLeft (.int y) = drawK l i y t := by
  obtain ⟨h1, h2, h3, h4, h5, h6⟩ := kne
  unfold putK drawK
  simp [h1, h2, h3, h4, h5, h6, h1.symm, h2.symm, h3.symm, h4.symm, h5.symm, h6.symm]
theorem put_turn {l i : Addr} {x t y : Int} : putK (drawK l i x t) kTurn (.int y) = drawK l i x y := by
  obtain ⟨h1, h2, h3, h4, h5, h6⟩ := kne
  unfold putK drawK
  simp [h1, h2, h3, h4, h5, h6, h1.symm, h2.symm, h3.symm, h4.symm, h5.symm, h6.symm]
theorem merge_draw {l i : Addr} {x t : Int} : mergeK [] (drawK l i x t) = drawK l i x t := by
  obtain ⟨h1, h2, h3, h4, h5, h6⟩ := kne
  unfold mergeK drawK
  simp [putK, h1, h2, h3, h4, h5, h6, h1.symm, h2.symm, h3.symm, h4.symm, h5.symm, h6.symm]
/-- a draw stands at d, its list of large numbers at l; at most N turns were taken -/
structure DrawAt (H : Hp) (d l : Addr) (N : Nat) : Prop where
  ex : ∃ (i : Addr) (xs ls : List Int) (x t : Int), H d = some (.dK (drawK l i x t)) ∧ H l = some (.lst (ls.map V.int)) ∧ H i = some (.lst (xs.map V.int)) ∧ i ≠ l ∧
    (∀ y ∈ ls, 0 ≤ y) ∧ (∀ y ∈ xs, 0 ≤ y) ∧ xs.length < 100000 ∧ ls.length < 100000 ∧ 0 ≤ x ∧ 0 ≤ t ∧ t ≤ N
/-- all but the draw is kept -/
structure But (d l : Addr) (H H' : Hp) : Prop where
  kp : ∀ b o, H b = some o → b ≠ d → b ≠ l → H' b = some o
  dd : H' d ≠ none
  ll : H' l ≠ none
theorem DrawAt.same {H H' : Hp} {d l : Addr} {N : Nat} (s : Same H H') (h : DrawAt H d l N) : DrawAt H' d l N := by
  obtain ⟨i, xs, ls, x, t, h1, h2, h3, r⟩ := h.ex
  exact ⟨i, xs, ls, x, t, s _ _ h1, s _ _ h2, s _ _ h3, r⟩
theorem DrawAt.le {H : Hp} {d l : Addr} {N N' : Nat} (h : DrawAt H d l N) (e : N ≤ N') : DrawAt H d l N' := by
  obtain ⟨i, xs, ls, x, t, h1, h2, h3, h4, h5, h6, h7, h8, h9, h10, h11⟩ := h.ex
  exact ⟨i, xs, ls, x, t, h1, h2, h3, h4, h5, h6, h7, h8, h9, h10, by omega⟩
theorem But.tr {M : Ms} {H H' : Hp} {d l : Addr} (b : But d l H H') (hd : M d) (hl : M l) : Tr M H M H' := fun a o e m => ⟨b.kp a o e (fun z => m (by rw [z]; exact hd)) (fun z => m (by rw [z]; exact hl)), m⟩
theorem Rp.but {α : Type} {R : Rp α} [i : Mono R] {K : Fg} {M : Ms} {H H' : Hp} {d l : Addr} {v : V} {a : α} (s : But d l H H') (hd : M d) (hl : M l) (h : R K M H v a) : R K M H' v a := i.mono (s.tr hd hl) h
theorem Own.but {M : Ms} {H H' : Hp} {d l : Addr} (s : But d l H H') (w : Own M H) : Own M H' := fun b m z => by
  by_cases e : b = d
  · subst e; exact s.dd z
  · by_cases e2 : b = l
    · subst e2; exact s.ll z
    · cases q : H b with
      | none => exact w b m q
      | some o => rw [s.kp b o q e e2] at z; cases z
/-- other lists, tuples that stand -/
theorem But.at {H H' : Hp} {d l b : Addr} {o : HO} (s : But d l H H') (h : H b = some o) (hd : b ≠ d) (hl : b ≠ l) : H' b = some o := s.kp b o h hd hl
theorem But.trans {H H1 H2 : Hp} {d l : Addr} (a : But d l H H1) (b : But d l H1 H2) : But d l H H2 := ⟨fun c o e n m => b.kp c o (a.kp c o e n m) n m, b.dd, b.ll⟩
theorem Same.notnone {H H' : Hp} {b : Addr} (s : Same H H') (h : H b ≠ none) : H' b ≠ none := by
  cases q : H b with
  | none => exact absurd q h
  | some o => rw [s _ _ q]; simp
theorem But.same {H H1 H2 : Hp} {d l : Addr} (a : But d l H H1) (b : Same H1 H2) : But d l H H2 := ⟨fun c o e n m => b c o (a.kp c o e n m), Same.notnone b a.dd, Same.notnone b a.ll⟩
theorem But.of_same {H H1 : Hp} {d l : Addr} {N : Nat} (b : Same H H1) (h : DrawAt H d l N) : But d l H H1 := by
  obtain ⟨i, xs, ls, x, t, h1, h2, h3, r⟩ := h.ex
  exact ⟨fun c o e n m => b c o e, Same.notnone b (by rw [h1]; simp), Same.notnone b (by rw [h2]; simp)⟩
theorem But.same' {H H1 H2 : Hp} {d l : Addr} (a : Same H H1) (b : But d l H1 H2) : But d l H H2 := ⟨fun c o e n m => b.kp c o (a c o e) n m, b.dd, b.ll⟩
theorem But.free {H H' : Hp} {d l b : Addr} (s : But d l H H') (h : H' b = none) : H b = none := by
  cases q : H b with
  | none => rfl
  | some o =>
    by_cases e : b = d
    · subst e; exact absurd h s.dd
    · by_cases e2 : b = l
      · subst e2; exact absurd h s.ll
      · rw [s.kp b o q e e2] at h; cases h
/-- what may change in a law's own run -/
def mDraw (d l : Addr) : Ms := fun b => b = d ∨ b = l
theorem DrawAt.own {H : Hp} {d l : Addr} {N : Nat} (h : DrawAt H d l N) : Own (mDraw d l) H := fun b m z => by
  obtain ⟨i, xs, ls, x, t, h1, h2, _⟩ := h.ex
  rcases m with rfl | rfl
  · rw [h1] at z; cases z
  · rw [h2] at z; cases z
/-! ## steps: dicts, cuts -/
def rDGet (x y : V) (H : Hp) (Q : VK) : Prop := ∃ a v, x = .ref a ∧ DGet H a y (some v) ∧ Q v H
def rDPut (x y v : V) (H : Hp) (R : Hp → Prop) : Prop := ∃ a H4, x = .ref a ∧ DPut H a y v H4 ∧ R H4
section
variable {K : Fg} {M : Ms} {H : Hp} {σ : L2.St} {D : Ends} {Q : VK} {t u : TS} {td ty tv te : TE} {x y v : V}
theorem s_dget (h : td σ H fun x H1 => ty σ H1 fun y H2 => rDGet x y H2 Q) : tDGet td ty σ H Q := h
theorem s_dput (h : tv σ H fun v H1 => td σ H1 fun x H2 => ty σ H2 fun y H3 => rDPut x y v H3 (D.nx σ)) : sDPut td ty tv D σ H := h
theorem s_dgetK {a : Addr} {kvs : List (Key × V)} {k : Key} (h : H a = some (.dK kvs)) (e : valV kvs k = some v) (q : Q v H) : rDGet (.ref a) (kV k) H Q := ⟨a, v, rfl, by rw [← e]; exact DGet.k h, q⟩
theorem s_dputK {a : Addr} {kvs : List (Key × V)} {k : Key} {R : Hp → Prop} (h : H a = some (.dK kvs)) (hl : kvs.length < sizeLine) (q : R (upd H a (.dK (putK kvs k v)))) : rDPut (.ref a) (kV k) v H R := ⟨a, _, rfl, DPut.k h hl, q⟩
theorem s_bm {T : String} {r : V → List V → Hp → VK → Prop} {t : TA} (h : te σ H fun x H1 => tyV K T x H1 ∧ t σ H1 fun xs H2 => r x xs H2 Q) : tBM K T r te t σ H Q := h
theorem s_bm0 {T : String} {r : V → List V → Hp → VK → Prop} (h : te σ H fun x H1 => tyV K T x H1 ∧ r x [] H1 Q) : tBM0 K T r te σ H Q := h
theorem s_cut (I : L2.St → Hp → Prop) (h2 : ∀ σ' H', I σ' H' → u D σ' H') (h1 : ∀ N : L2.St → Hp → Prop, (∀ σ' H', I σ' H' → N σ' H') → t { D with nx := N } σ H) : tSeq t u D σ H := h1 _ h2
variable {d l i : Addr} {a b : Int}
theorem s_getLarge (h : H d = some (.dK (drawK l i a b))) (q : Q (.ref l) H) : rDGet (.ref d) (.str "large") H Q := s_dgetK (k := kLarge) h draw_large q
theorem s_getItems (h : H d = some (.dK (drawK l i a b))) (q : Q (.ref i) H) : rDGet (.ref d) (.str "items") H Q := s_dgetK (k := kItems) h draw_items q
theorem s_getLeft (h : H d = some (.dK (drawK l i a b))) (q : Q (.int a) H) : rDGet (.ref d) (.str "left") H Q := s_dgetK (k := kLeft) h draw_left q
theorem s_getTurn (h : H d = some (.dK (drawK l i a b))) (q : Q (.int b) H) : rDGet (.ref d) (.str "turn") H Q := s_dgetK (k := kTurn) h draw_turn q
theorem s_putLeft {c : Int} {R : Hp → Prop} (h : H d = some (.dK (drawK l i a b))) (q : R (upd H d (.dK (drawK l i c b)))) : rDPut (.ref d) (.str "left") (.int c) H R := s_dputK (k := kLeft) h (by show 4 < sizeLine; decide) (by rw [put_left]; exact q)
theorem s_putTurn {c : Int} {R : Hp → Prop} (h : H d = some (.dK (drawK l i a b))) (q : R (upd H d (.dK (drawK l i a c)))) : rDPut (.ref d) (.str "turn") (.int c) H R := s_dputK (k := kTurn) h (by show 4 < sizeLine; decide) (by rw [put_turn]; exact q)
theorem prd_ints {K : Fg} {M : Ms} {H : Hp} : ∀ ns : List Int, Paired (rInt K M H) (ns.map V.int) ns
  | [] => .nil
  | _ :: ns => .cons rfl (prd_ints ns)
theorem ints_prd {K : Fg} {M : Ms} {H : Hp} : ∀ {vs : List V} {ns : List Int}, Paired (rInt K M H) vs ns → vs = ns.map V.int
  | _, _, .nil => rfl
  | _, _, .cons h t => by rw [show _ = _ from h, ints_prd t]; rfl
/-- a list of ints that stands -/
theorem rL_ints {p : Addr} {ns : List Int} (h : H p = some (.lst (ns.map V.int))) : rL rInt K (fun _ => False) H (.ref p) ns := ⟨p, _, rfl, .inl ⟨fun z => z, .inl h⟩, prd_ints ns⟩
theorem rL_nil {p : Addr} : rL rInt K (fun _ => False) (upd H p (.lst [])) (.ref p) [] := rL_ints (ns := []) upd_same
theorem s_newNil (h : ∀ p H', Same H H' → rL rInt K (fun _ => False) H' (.ref p) [] → Q (.ref p) H') : NewL [] H Q :=
  ⟨Nat.zero_le _, fun p n => h p _ (Same.upd_new n) rL_nil⟩
theorem bd64 {i : Int} (h : i.natAbs < 2 ^ 64) : Bd 64 i := h
end
/-- n / d -/
def sp_div (K : Fg) : Sp := fun vs H Q _ => ∃ (M : Ms) (n d : Int) (k : Nat), vs = [.int n, .int d] ∧ d ≠ 0 ∧ Bd k d ∧ k < 9000 ∧ Own M H ∧ ∀ v H', Same H H' → rFr K M H' v ((n : Rat) / (d : Rat)) → Q v H'
theorem c_div {K : Fg} {M : Ms} {H : Hp} {Q : VK} {E : XK} {n d : Int} {k : Nat} (hd : d ≠ 0) (hb : Bd k d) (hk : k < 9000) (ow : Own M H) (h : ∀ v H', Same H H' → rFr K M H' v ((n : Rat) / (d : Rat)) → Q v H') :
    sp_div K ([.int n, .int d] ++ []) H Q E := ⟨M, n, d, k, rfl, hd, hb, hk, ow, h⟩
theorem seq_zero {n : Nat} (h : 0 < n) : seqIndex? 0 n = some 0 := (ixN_seq (show ixN n ((0 : Nat) : Int) = some 0 from ixN_nat h)).1
theorem Rp.same2 {α : Type} {R : Rp α} {K : Fg} {M : Ms} {H H' : Hp} {v : V} {a : α} (s : Same H H') (h : R K M H v a) (i : Mono R) : R K M H' v a := i.mono (Ext.of_same s).tr h
theorem Rp.but2 {α : Type} {R : Rp α} {K : Fg} {M : Ms} {H H' : Hp} {d l : Addr} {v : V} {a : α} (s : But d l H H') (hd : M d) (hl : M l) (h : R K M H v a) (i : Mono R) : R K M H' v a := i.mono (s.tr hd hl) h

/-! ## isinstance -/
theorem kb_ii : kitB "int" "int" = some true := by decide +kernel
theorem kb_ib : kitB "int" "bool" = some false := by decide +kernel
theorem kb_it : kitB "int" "tuple" = some false := by decide +kernel
theorem kb_il : kitB "int" "list" = some false := by decide +kernel
theorem kb_bi : kitB "bool" "int" = some true := by decide +kernel
theorem kb_bb : kitB "bool" "bool" = some true := by decide +kernel
theorem kb_bt : kitB "bool" "tuple" = some false := by decide +kernel
theorem kb_bl : kitB "bool" "list" = some false := by decide +kernel
theorem kb_ti : kitB "tuple" "int" = some false := by decide +kernel
theorem kb_tb : kitB "tuple" "bool" = some false := by decide +kernel
theorem kb_tt : kitB "tuple" "tuple" = some true := by decide +kernel
theorem kb_tl : kitB "tuple" "list" = some false := by decide +kernel
theorem kb_li : kitB "list" "int" = some false := by decide +kernel
theorem kb_lb : kitB "list" "bool" = some false := by decide +kernel
theorem kb_lt : kitB "list" "tuple" = some false := by decide +kernel
theorem kb_ll : kitB "list" "list" = some true := by decide +kernel
theorem kb_si : kitB "str" "int" = some false := by decide +kernel
theorem kb_sb : kitB "str" "bool" = some false := by decide +kernel
theorem kb_st : kitB "str" "tuple" = some false := by decide +kernel
theorem kb_sl : kitB "str" "list" = some false := by decide +kernel
theorem kb_ni : kitB "NoneType" "int" = some false := by decide +kernel
theorem kb_nb : kitB "NoneType" "bool" = some false := by decide +kernel
theorem kb_nt : kitB "NoneType" "tuple" = some false := by decide +kernel
theorem kb_nl : kitB "NoneType" "list" = some false := by decide +kernel
theorem kb_di : kitB "dict" "int" = some false := by decide +kernel
theorem kb_db : kitB "dict" "bool" = some false := by decide +kernel
theorem kb_dt : kitB "dict" "tuple" = some false := by decide +kernel
theorem kb_dl : kitB "dict" "list" = some false := by decide +kernel
section
variable {K : Fg} {M : Ms} {H : Hp} {Q : VK} {x : V} {n : String} {b : Bool} {i : Int}
theorem s_isi {t : String} (ty : TyX K H x (.type t)) (e : kitB t n = some b) (q : Q (.bl b) H) : rIsi K [x, .ty n] H Q := ⟨x, .ty n, .type t, .type n, b, rfl, .ty n, ty, kit_ty e, q⟩
theorem s_isiI (e : kitB "int" n = some b) (q : Q (.bl b) H) : rIsi K [.int i, .ty n] H Q := s_isi (.base (.int i)) e q
theorem s_isiB {c : Bool} (e : kitB "bool" n = some b) (q : Q (.bl b) H) : rIsi K [.bl c, .ty n] H Q := s_isi (.base (.bl c)) e q
theorem TupM.ty {p : Addr} {xs : List V} (h : TupM K M H p xs) : TyX K H (.ref p) (.type "tuple") := by
  rcases h with ⟨_, e⟩ | ⟨o, its, m, e, c, _⟩
  · exact .base (.tup e)
  · exact .kTuple e c
theorem LstM.ty {p : Addr} {xs : List V} (h : LstM K M H p xs) : TyX K H (.ref p) (.type "list") := by
  rcases h with ⟨_, e | ⟨o, e⟩⟩ | ⟨o, its, m, e, c, _⟩
  · exact .base (.lst e)
  · exact .base (.frz e)
  · exact .kList e c
theorem s_isiFr {q : Rat} (h : rFr K M H x q) (e : kitB "tuple" n = some b) (k : Q (.bl b) H) : rIsi K [x, .ty n] H Q := by
  obtain ⟨p, rfl, z⟩ := h
  exact s_isi z.ty e k
theorem s_isiT2 {α β : Type} {A : Rp α} {B : Rp β} {ab : α × β} (h : rT2 A B K M H x ab) (e : kitB "tuple" n = some b) (k : Q (.bl b) H) : rIsi K [x, .ty n] H Q := by
  obtain ⟨p, y, z, rfl, w, _⟩ := h
  exact s_isi w.ty e k
theorem s_isiL {α : Type} {A : Rp α} {as : List α} (h : rL A K M H x as) (e : kitB "list" n = some b) (k : Q (.bl b) H) : rIsi K [x, .ty n] H Q := by
  obtain ⟨p, vs, rfl, w, _⟩ := h
  exact s_isi w.ty e k
theorem s_lenFr {q : Rat} (h : rFr K M H x q) (k : Q (.int 2) H) : rLen K [x] H Q := by
  obtain ⟨p, rfl, z⟩ := h
  exact ⟨_, 2, rfl, .inr ⟨_, z.sq, rfl⟩, k⟩
theorem s_lenT2 {α β : Type} {A : Rp α} {B : Rp β} {ab : α × β} (h : rT2 A B K M H x ab) (k : Q (.int 2) H) : rLen K [x] H Q := by
  obtain ⟨p, y, z, rfl, w, _⟩ := h
  exact ⟨_, 2, rfl, .inr ⟨_, w.sq, rfl⟩, k⟩
variable {N : Ms} {y : V}
theorem s_eqFr {a b : Rat} (ha : rFr K M H x a) (hb : rFr K N H y b) (h : Q (.bl (decide (a = b))) H) : rEqA K x y H Q := s_eqD ha hb h (by decide)
theorem s_neFr {a b : Rat} (ha : rFr K M H x a) (hb : rFr K N H y b) (h : Q (.bl (!decide (a = b))) H) : rNeA K x y H Q := s_neD ha hb h (by decide)
theorem s_eqLFr {a b : List Rat} (ha : rL rFr K M H x a) (hb : rL rFr K N H y b) (h : Q (.bl (decide (a = b))) H) : rEqA K x y H Q := s_eqD ha hb h (by decide)
theorem s_neLFr {a b : List Rat} (ha : rL rFr K M H x a) (hb : rL rFr K N H y b) (h : Q (.bl (!decide (a = b))) H) : rNeA K x y H Q := s_neD ha hb h (by decide)
theorem s_iteNF {A B : Prop} (h : A) : if (!false) = true then A else B := by rw [if_pos (show (!false) = true from rfl)]; exact h
theorem s_iteNT {A B : Prop} (h : B) : if (!true) = true then A else B := by rw [if_neg (show ¬ (!true) = true by decide)]; exact h
theorem s_iteKT {A B : Prop} {p : Prop} {dp : Decidable p} (e : p) (h : A) : if decide p = true then A else B := by rw [if_pos (decide_eq_true e)]; exact h
theorem s_iteKF {A B : Prop} {p : Prop} {dp : Decidable p} (e : ¬ p) (h : B) : if decide p = true then A else B := by rw [if_neg (by simpa using e)]; exact h
theorem s_iteNKT {A B : Prop} {p : Prop} {dp : Decidable p} (e : p) (h : B) : if (!decide p) = true then A else B := by rw [if_neg (by simpa using e)]; exact h
theorem s_iteNKF {A B : Prop} {p : Prop} {dp : Decidable p} (e : ¬ p) (h : A) : if (!decide p) = true then A else B := by rw [if_pos (by simpa using e)]; exact h
end
/-! ## for over a range -/
def ForR (n : Nat) (g : TG) (tb : TS) (D : Ends) (σ : L2.St) (H1 : Hp) : Prop := ∃ W : Nat → Nat → L2.St → Hp → Prop, (∃ m, W 0 m σ H1) ∧ ∀ i m σ H, W i m σ H →
  ((Itr 0 n).stop i H ∧ D.nx σ H) ∨ ((Itr 0 n).go i H ∧ ∃ N : L2.St → Hp → Prop, (∀ σ' H', N σ' H' → ∃ m', m' < m ∧ W (i + 1) m' σ' H') ∧ ∀ x H', (Itr 0 n).yld i H x H' → g x σ H' fun σ2 H2 => tb { D with nx := N, ct := N, bk := D.nx } σ2 H2)
def rRng (n : Int) (R : Nat → Prop) : Prop := -(2 ^ 62) ≤ n ∧ n < 2 ^ 62 ∧ R n.toNat
theorem s_rng {n : Int} {R : Nat → Prop} (h : -4611686018427387904 ≤ n ∧ n < 4611686018427387904) (k : R n.toNat) : rRng n R := ⟨h.1, h.2, k⟩
theorem s_forR1 {ta : TA} {g : TG} {tb : TS} {D : Ends} {σ : L2.St} {H : Hp} (h : ta σ H fun vs H1 => ∃ j : Int, vs = [.int j] ∧ rRng j fun n => ForR n g tb D σ H1) : tFor (iRng1 ta) g tb D σ H := h
theorem s_rng1 {i : Int} {R : Int → Prop} (h : R i) : ∃ j : Int, [V.int i] = [V.int j] ∧ R j := ⟨i, rfl, h⟩
theorem forR_by {n : Nat} {g : TG} {tb : TS} {D : Ends} {σ : L2.St} {H : Hp} (Pv : Nat → L2.St → Hp → Prop) (h0 : Pv 0 σ H)
    (hs : ∀ (i : Nat) σ H (N : L2.St → Hp → Prop), i < n → Pv i σ H → (∀ σ' H', Pv (i + 1) σ' H' → N σ' H') → g (.int (i : Int)) σ H fun σ2 H2 => tb { D with nx := N, ct := N, bk := D.nx } σ2 H2) (hd : ∀ σ H, Pv n σ H → D.nx σ H) : ForR n g tb D σ H :=
  for_range (lo := 0) (n := n) Pv h0 (fun i σ H hi p => by
    rw [show (0 : Int) + (i : Int) = (i : Int) by omega]
    exact hs i σ H _ hi p fun _ _ z => z) hd

/-! ## any value -/
inductive Ob where
  | int (i : Int) | bl (b : Bool) | str | non | dic | tup (xs : List Ob) | lst (xs : List Ob)
mutual
inductive OA (K : Fg) (M : Ms) (H : Hp) : V → Ob → Prop
  | int (i : Int) : OA K M H (.int i) (.int i)
  | bl (b : Bool) : OA K M H (.bl b) (.bl b)
  | str (s : Str) : OA K M H (.str s) .str
  | non : OA K M H .non .non
  | dic {p : Addr} {kvs : List (Key × V)} : ¬ M p → H p = some (.dK kvs) → OA K M H (.ref p) .dic
  | tup {p : Addr} {vs : List V} {xs : List Ob} : TupM K M H p vs → OAs K M H vs xs → OA K M H (.ref p) (.tup xs)
  | lst {p : Addr} {vs : List V} {xs : List Ob} : LstM K M H p vs → OAs K M H vs xs → OA K M H (.ref p) (.lst xs)
inductive OAs (K : Fg) (M : Ms) (H : Hp) : List V → List Ob → Prop
  | nil : OAs K M H [] []
  | cons {v : V} {vs : List V} {o : Ob} {os : List Ob} : OA K M H v o → OAs K M H vs os → OAs K M H (v :: vs) (o :: os)
end
section
variable {K : Fg} {M M' : Ms} {H H' : Hp}
mutual
theorem OA.mono (t : Tr M H M' H') : ∀ {o : Ob} {v : V}, OA K M H v o → OA K M' H' v o
  | .int i, _, h => by cases h; exact .int i
  | .bl b, _, h => by cases h; exact .bl b
  | .str, _, h => by cases h; exact .str _
  | .non, _, h => by cases h; exact .non
  | .dic, _, h => by
    cases h with
    | dic n e => exact .dic (t _ _ e n).2 (t _ _ e n).1
  | .tup xs, _, h => by
    cases h with
    | tup a b => exact .tup (a.mono t) (OAs.mono t b)
  | .lst xs, _, h => by
    cases h with
    | lst a b => exact .lst (a.mono t) (OAs.mono t b)
theorem OAs.mono (t : Tr M H M' H') : ∀ {os : List Ob} {vs : List V}, OAs K M H vs os → OAs K M' H' vs os
  | [], _, h => by cases h; exact .nil
  | o :: os, _, h => by
    cases h with
    | cons a b => exact .cons (OA.mono t a) (OAs.mono t b)
end
theorem OAs.of_prd : ∀ {vs : List V} {os : List Ob}, Paired (OA K M H) vs os → OAs K M H vs os
  | _, _, .nil => .nil
  | _, _, .cons a b => .cons a (OAs.of_prd b)
theorem OAs.prd : ∀ {os : List Ob} {vs : List V}, OAs K M H vs os → Paired (OA K M H) vs os
  | [], _, h => by cases h; exact .nil
  | o :: os, _, h => by
    cases h with
    | cons a b => exact .cons a (OAs.prd b)
end
def rOb : Rp Ob := OA
instance : Mono rOb := ⟨fun t h => OA.mono t h⟩
def Ob.ty : Ob → String
  | .int _ => "int" | .bl _ => "bool" | .str => "str" | .non => "NoneType" | .dic => "dict" | .tup _ => "tuple" | .lst _ => "list"
def Ob.isInt : Ob → Bool | .int _ => true | _ => false
def Ob.isTup : Ob → Bool | .tup _ => true | _ => false
def Ob.isLst : Ob → Bool | .lst _ => true | _ => false
def Ob.isBl : Ob → Bool | .bl _ => true | _ => false
/-- is_fraction's answer -/
def Ob.isFr : Ob → Bool
  | .tup [.int n, .int d] => decide (1 ≤ d) && decide (Nat.gcd n.natAbs d.natAbs = 1)
  | _ => false
theorem kb_oi (o : Ob) : kitB o.ty "int" = some (o.isInt || o.isBl) := by cases o <;> first | exact kb_ii | exact kb_bi | exact kb_si | exact kb_ni | exact kb_di | exact kb_ti | exact kb_li
theorem kb_ob (o : Ob) : kitB o.ty "bool" = some o.isBl := by cases o <;> first | exact kb_ib | exact kb_bb | exact kb_sb | exact kb_nb | exact kb_db | exact kb_tb | exact kb_lb
theorem kb_ot (o : Ob) : kitB o.ty "tuple" = some o.isTup := by cases o <;> first | exact kb_it | exact kb_bt | exact kb_st | exact kb_nt | exact kb_dt | exact kb_tt | exact kb_lt
theorem kb_ol (o : Ob) : kitB o.ty "list" = some o.isLst := by cases o <;> first | exact kb_il | exact kb_bl | exact kb_sl | exact kb_nl | exact kb_dl | exact kb_tl | exact kb_ll
section
variable {K : Fg} {M : Ms} {H : Hp} {Q : VK} {v : V} {o : Ob} {n : String} {b : Bool}
theorem OA.tyx (h : OA K M H v o) : TyX K H v (.type o.ty) := by
  cases h with
  | int i => exact .base (.int i)
  | bl b => exact .base (.bl b)
  | str s => exact .base (.str s)
  | non => exact .base .non
  | dic n e => exact .base (.dK e)
  | tup a b => exact a.ty
  | lst a b => exact a.ty
theorem s_isiO (h : rOb K M H v o) (e : kitB o.ty n = some b) (q : Q (.bl b) H) : rIsi K [v, .ty n] H Q := s_isi (OA.tyx h) e q
theorem fr_ob {q : Rat} (h : rFr K M H v q) : rOb K M H v (.tup [.int q.num, .int q.den]) := by
  obtain ⟨p, rfl, t⟩ := h
  exact .tup t (.cons (.int _) (.cons (.int _) .nil))
theorem isFr_rat (q : Rat) : (Ob.tup [.int q.num, .int q.den]).isFr = true := by
  have := q.den_pos
  have h2 := q.reduced
  unfold Nat.Coprime at h2
  simp [Ob.isFr, h2]
  omega
theorem OA.tup_inv {xs : List Ob} (h : rOb K M H v (.tup xs)) : ∃ p vs, v = .ref p ∧ TupM K M H p vs ∧ Paired (OA K M H) vs xs := by
  cases h with
  | tup a b => exact ⟨_, _, rfl, a, OAs.prd b⟩
theorem OA.lst_inv {xs : List Ob} (h : rOb K M H v (.lst xs)) : ∃ p vs, v = .ref p ∧ LstM K M H p vs ∧ Paired (OA K M H) vs xs := by
  cases h with
  | lst a b => exact ⟨_, _, rfl, a, OAs.prd b⟩
theorem s_lenOT {xs : List Ob} (h : rOb K M H v (.tup xs)) (k : Q (.int xs.length) H) : rLen K [v] H Q := by
  obtain ⟨p, vs, rfl, t, r⟩ := OA.tup_inv h
  exact ⟨_, vs.length, rfl, .inr ⟨vs, t.sq, rfl⟩, by rw [Prd.len r]; exact k⟩
theorem s_lenOL {xs : List Ob} (h : rOb K M H v (.lst xs)) (k : Q (.int xs.length) H) : rLen K [v] H Q := by
  obtain ⟨p, vs, rfl, t, r⟩ := OA.lst_inv h
  exact ⟨_, vs.length, rfl, .inl ⟨vs, t.sq, rfl⟩, by rw [Prd.len r]; exact k⟩
/-- a new tuple, a new list of anything -/
theorem s_newTO {vs : List V} {os : List Ob} (w : Own M H) (hl : vs.length ≤ sizeLine) (hp : Paired (OA K M H) vs os) (h : ∀ v H', Same H H' → rOb K M H' v (.tup os) → Q v H') : NewT vs H Q :=
  ⟨hl, fun p n => h _ _ (Same.upd_new n) (.tup (.inl ⟨w.fresh n, upd_same⟩) (OAs.of_prd (Prd.monoR (fun _ _ z => OA.mono (Ext.of_same (Same.upd_new n)).tr z) hp)))⟩
theorem s_newLO {vs : List V} {os : List Ob} (w : Own M H) (hl : vs.length ≤ sizeLine) (hp : Paired (OA K M H) vs os) (h : ∀ p H', Same H H' → H' p = some (.lst vs) → rOb K M H' (.ref p) (.lst os) → Q (.ref p) H') : NewL vs H Q :=
  ⟨hl, fun p n => h _ _ (Same.upd_new n) upd_same (.lst (.inl ⟨w.fresh n, .inl upd_same⟩) (OAs.of_prd (Prd.monoR (fun _ _ z => OA.mono (Ext.of_same (Same.upd_new n)).tr z) hp)))⟩
/-- (a, b, ..) = a tuple, item by item -/
theorem s_gtup {n : Nat} {t : TGs} {p : Addr} {xs : List V} {σ : L2.St} {R : L2.St → Hp → Prop} (h : SqT K H p xs) (e : xs.length = n) (q : t xs σ H R) : gTup K n t (.ref p) σ H R := ⟨p, xs, rfl, h, e, q⟩
theorem s_gcons {t : TG} {u : TGs} {x : V} {xs : List V} {σ : L2.St} {R : L2.St → Hp → Prop} (q : t x σ H fun σ' H' => u xs σ' H' R) : gCons t u (x :: xs) σ H R := ⟨x, xs, rfl, q⟩
theorem s_gnil {σ : L2.St} {R : L2.St → Hp → Prop} (q : R σ H) : gNil [] σ H R := ⟨rfl, q⟩
/-- an item of a tuple of anything -/
theorem s_ixTO {xs : List V} {p : Addr} {i : Int} {y : V} (h : TupM K M H p xs) (e : atI xs i = some y) (q : Q y H) : rIx K (.ref p) (.int i) H Q := .inr (.inl ⟨p, xs, i, y, rfl, rfl, h.sq, e, q⟩)
/-- {} -/
theorem s_newD {R : V → Hp → Prop} (w : Own M H) (h : ∀ v H', Same H H' → rOb K M H' v .dic → R v H') : ∀ d, H d = none → R (.ref d) (upd H d (.dK [])) :=
  fun d n => h _ _ (Same.upd_new n) (.dic (w.fresh n) upd_same)
theorem fr_low {n d : Int} (hd : 0 < d) : (((n : Rat) / (d : Rat)).num = n ∧ (((n : Rat) / (d : Rat)).den : Int) = d) ↔ Nat.gcd n.natAbs d.natAbs = 1 := by
  refine ⟨fun ⟨h1, h2⟩ => ?_, fun h => rat_parts (by omega) hd h rfl⟩
  have r := ((n : Rat) / (d : Rat)).reduced
  unfold Nat.Coprime at r
  rw [h1] at r
  have e : ((n : Rat) / (d : Rat)).den = d.natAbs := by omega
  rw [e] at r
  exact r
end
def sp_whole (K : Fg) : Sp := fun vs H Q _ => ∃ (M : Ms) (v : V) (o : Ob), vs = [v] ∧ rOb K M H v o ∧ Q (.bl o.isInt) H
theorem c_whole {K : Fg} {M : Ms} {H : Hp} {Q : VK} {E : XK} {v : V} {o : Ob} (h : rOb K M H v o) (q : Q (.bl o.isInt) H) : sp_whole K ([v] ++ []) H Q E := ⟨M, v, o, rfl, h, q⟩
section
variable {α : Type} {A : Rp α} {K : Fg} {M : Ms} {H H' : Hp} {Q : VK} {p q : Addr} {vs ws : List V} {as bs : List α}
theorem s_newLx [Mono A] (w : Own M H) (hl : vs.length ≤ sizeLine) (hp : Paired (A K M H) vs as) (h : ∀ p H', Same H H' → H' p = some (.lst vs) → Paired (A K M H') vs as → Q (.ref p) H') : NewL vs H Q :=
  ⟨hl, fun p n => h _ _ (Same.upd_new n) upd_same (Prd.monoR (fun _ _ z => Rp.same (Same.upd_new n) z) hp)⟩
theorem Prd.same [Mono A] (s : Same H H') (hp : Paired (A K M H) vs as) : Paired (A K M H') vs as := Prd.monoR (fun _ _ z => Rp.same s z) hp
theorem s_cat [Mono A] (w : Own M H) (e1 : H p = some (.lst vs)) (e2 : H q = some (.lst ws)) (h1 : Paired (A K M H) vs as) (h2 : Paired (A K M H) ws bs) (hl : as.length + bs.length < 100000)
    (h : ∀ v H', Same H H' → rL A K M H' v (as ++ bs) → Q v H') : rAddA K (.ref p) (.ref q) H Q :=
  .inr (.inl ⟨p, q, vs, ws, rfl, rfl, e1, e2, Nat.le_of_lt (small_line (by rw [Prd.len h1, Prd.len h2]; exact hl)), fun c n => h _ _ (Same.upd_new n) ⟨c, _, rfl, .inl ⟨w.fresh n, .inl upd_same⟩, Prd.append (Prd.same (Same.upd_new n) h1) (Prd.same (Same.upd_new n) h2)⟩⟩)
theorem TupM.same (s : Same H H') (h : TupM K M H p vs) : TupM K M H' p vs := h.mono (Ext.of_same s).tr
theorem fr_t2 {v : V} {r : Rat} (h : rFr K M H v r) : rT2 rInt rInt K M H v (r.num, (r.den : Int)) := by
  obtain ⟨p, rfl, t⟩ := h
  exact ⟨p, _, _, rfl, t, rfl, rfl⟩
theorem tup_t2 {m n : Int} (h : TupM K M H p [.int m, .int n]) : rT2 rInt rInt K M H (.ref p) (m, n) := ⟨p, _, _, rfl, h, rfl, rfl⟩
theorem ob_t2 {v : V} {m n : Int} (h : rOb K M H v (.tup [.int m, .int n])) : rT2 rInt rInt K M H v (m, n) := by
  obtain ⟨p, vs, rfl, t, r⟩ := OA.tup_inv h
  cases r with
  | cons a r =>
    cases r with
    | cons b r =>
      cases r
      cases a
      cases b
      exact tup_t2 t
end
theorem len_ok {vs : List V} (h : vs.length < 100000) : vs.length ≤ sizeLine := Nat.le_of_lt (small_line h)
theorem isFr_no {xs : List Ob} (h : xs.length ≠ 2) : (Ob.tup xs).isFr = false := by
  match xs with
  | [] => rfl
  | [_] => simp [Ob.isFr]
  | [_, _] => simp at h
  | _ :: _ :: _ :: _ => simp [Ob.isFr]
theorem isFr_two (a b : Ob) : (Ob.tup [a, b]).isFr = (a.isInt && b.isInt && (match a, b with | .int n, .int d => decide (1 ≤ d) && decide (Nat.gcd n.natAbs d.natAbs = 1) | _, _ => false)) := by
  cases a <;> cases b <;> simp [Ob.isFr, Ob.isInt]
theorem isInt_inv {o : Ob} (h : o.isInt = true) : ∃ i, o = .int i := by cases o <;> simp_all [Ob.isInt]
theorem s_dnewO {K : Fg} {M : Ms} {H : Hp} {σ : L2.St} {Q : VK} (w : Own M H) (h : ∀ v H', Same H H' → rOb K M H' v .dic → Q v H') : tDNewK σ H Q := s_newD w h
theorem At.same {H H' : Hp} {p : Addr} {o : HO} (s : Same H H') (h : H p = some o) : H' p = some o := s _ _ h

local macro_rules | `(tactic| walk_at "my_m") => `(tactic| first | assumption | exact Or.inl rfl | exact Or.inr rfl | exact Or.inl (by assumption) | exact Or.inl (Or.inl rfl) | exact Or.inl (Or.inr rfl))
local macro_rules | `(tactic| walk_at "my_tr") => `(tactic| first
  | assumption
  | ((with_reducible apply Own.same); (case s => assumption); (case w => walk_at "my_tr"))
  | ((with_reducible apply Own.but); (case s => assumption); (case w => walk_at "my_tr"))
  | ((with_reducible apply DrawAt.same); (case s => assumption); (case h => walk_at "my_tr"))
  | ((with_reducible apply TupM.same); (case s => assumption); (case h => walk_at "my_tr"))
  | ((with_reducible show Own _ _); fail)
  | ((with_reducible show DrawAt _ _ _ _); fail)
  | (refine Rp.same2 (by assumption) ?h ?i; (case h => walk_at "my_tr"); (case i => infer_instance))
  | (refine Rp.but2 (by assumption) ?hd ?hl ?h ?i; (case h => walk_at "my_tr"); (case i => infer_instance); (case hd => walk_at "my_m"); (case hl => walk_at "my_m"))
  | ((with_reducible apply Prd.same); (case s => assumption); (case hp => walk_at "my_tr"))
  | ((with_reducible apply At.same); (case s => assumption); (case h => walk_at "my_tr")))
local macro_rules | `(tactic| walk_at "my_bd") => `(tactic| first
  | assumption
  | ((with_reducible apply Bd.mul) <;> walk_at "my_bd")
  | ((with_reducible apply Bd.addM) <;> walk_at "my_bd")
  | ((with_reducible apply Bd.subM) <;> walk_at "my_bd")
  | ((with_reducible apply Bd.neg) <;> walk_at "my_bd")
  | ((with_reducible apply Bd.num) <;> assumption)
  | ((with_reducible apply Bd.den) <;> assumption)
  | exact bd64 (by decide +kernel)
  | exact bd64 (by omega))
local macro_rules | `(tactic| walk_at "my_call") => `(tactic| fail)
local macro_rules | `(tactic| walk_at "my_call") => `(tactic| ((with_reducible apply c_whole); (case h => walk_at "my_tr")))
local macro_rules | `(tactic| walk_at "my_call") => `(tactic| ((with_reducible apply c_div); (case hd => walk_at "my_ne"); (case hb => walk_at "my_bd"); (case hk => omega); (case ow => walk_at "my_tr"); intro _ _ _ _))
local macro_rules | `(tactic| walk_at "my_go1") => `(tactic| first
  | (with_reducible refine s_seq ?_)
  | (with_reducible refine s_asg ?_)
  | ((with_reducible refine s_gname ?_); dsimp only [List.set, wipe, List.map])
  | (with_reducible refine s_ret ?_)
  | ((with_reducible refine s_var (v := ?v) ?e ?_); (case e => with_unfolding_all rfl))
  | (with_reducible refine s_c ?_)
  | (with_reducible refine s_op ?_)
  | (with_reducible refine s_cons ?_)
  | (with_reducible refine s_nil ?_)
  | (with_reducible refine s_call ?_)
  | (with_reducible refine s_cb ?_)
  | (with_reducible refine s_rI0 ?_)
  | (with_reducible refine s_addI ?_)
  | ((with_reducible refine s_mulI ?e ?_); (case e => (refine cmul_of (by walk_at "my_bd") (by walk_at "my_bd") ?_; omega)))
  | (with_reducible refine s_rU ?_)
  | (with_reducible refine s_un ?_)
  | (with_reducible refine s_if ?_)
  | (with_reducible refine s_test ?_)
  | (with_reducible refine s_tB ?_)
  | (with_reducible refine s_bl ?_)
  | (with_reducible refine s_next ?_)
  | (with_reducible refine s_tup ?_)
  | (with_reducible refine s_lst ?_)
  | (with_reducible refine s_ifx ?_)
  | (with_reducible refine s_and ?_)
  | (with_reducible refine s_or ?_)
  | (with_reducible refine s_not ?_)
  | (with_reducible refine s_andV ?_)
  | (with_reducible refine s_orV ?_)
  | (with_reducible refine s_notV ?_)
  | (with_reducible refine s_drop ?_)
  | (with_reducible refine s_eqI ?_)
  | (with_reducible refine s_neI ?_)
  | (with_reducible refine s_abs ?_)
  | (with_reducible refine s_gcd ?_)
  | (with_reducible refine s_iteT ?_)
  | (with_reducible refine s_iteF ?_)
  | (with_reducible refine s_iteNF ?_)
  | ((with_reducible apply s_iteKT); (case e => walk_at "my_dec"))
  | ((with_reducible apply s_iteKF); (case e => walk_at "my_dec"))
  | ((with_reducible apply s_iteNKT); (case e => walk_at "my_dec"))
  | ((with_reducible apply s_iteNKF); (case e => walk_at "my_dec"))
  | (with_reducible refine s_iteNT ?_)
  | ((with_reducible apply s_ixTO); (case h => walk_at "my_tr"); (case e => first | exact atI0 | exact atI1))
  | ((with_reducible apply s_fr0); (case e => walk_at "my_tr"))
  | ((with_reducible apply s_fr1); (case e => walk_at "my_tr"))
  | ((with_reducible refine s_divI ?e ?_); (case e => (refine cdiv_of ?_ (by walk_at "my_bd") ?_ <;> omega)))
  | (with_reducible refine s_min ?_)
  | (with_reducible refine s_max ?_)
  | (with_reducible refine s_intI ?_)
  | (with_reducible refine s_intB ?_)
  | (with_reducible refine s_lc ?_)
  | ((with_reducible apply s_len); (case h => walk_at "my_tr"))
  | (with_reducible refine s_lct ?_)
  | (with_reducible refine s_yes ?_)
  | ((with_reducible refine s_wipe ?e ?_); (case e => rfl))
  | (with_reducible refine s_dget ?_)
  | (with_reducible refine s_dput ?_)
  | (with_reducible refine s_bm ?_)
  | (with_reducible refine s_bm0 ?_)
  | (with_reducible refine s_par ?_)
  | (with_reducible refine s_forR1 ?_)
  | (with_reducible refine s_rng1 ?_)
  | ((with_reducible apply s_isiI); (case e => walk_at "my_kb"))
  | ((with_reducible apply s_isiB); (case e => walk_at "my_kb"))
  | ((with_reducible apply s_isiFr); (case h => walk_at "my_tr"); (case e => walk_at "my_kb"))
  | ((with_reducible apply s_isiL); (case h => walk_at "my_tr"); (case e => walk_at "my_kb"))
  | ((with_reducible apply s_isiO); (case h => walk_at "my_tr"); (case e => first | exact kb_oi _ | exact kb_ob _ | exact kb_ot _ | exact kb_ol _))
  | ((with_reducible apply s_lenOT); (case h => walk_at "my_tr"))
  | ((with_reducible apply s_lenOL); (case h => walk_at "my_tr"))
  | (with_reducible refine s_gcons ?_)
  | (with_reducible refine s_gnil ?_)
  | ((with_reducible apply s_lenFr); (case h => walk_at "my_tr"))
  | (with_reducible refine s_eqB ?_)
  | (with_reducible refine s_neB ?_)
  | ((with_reducible apply s_eqFr); (case ha => walk_at "my_tr"); (case hb => walk_at "my_tr"))
  | ((with_reducible apply s_neFr); (case ha => walk_at "my_tr"); (case hb => walk_at "my_tr"))
  | ((with_reducible apply s_eqLFr); (case ha => walk_at "my_tr"); (case hb => walk_at "my_tr"))
  | ((with_reducible apply s_neLFr); (case ha => walk_at "my_tr"); (case hb => walk_at "my_tr"))
  | (with_reducible refine s_par3 ?_)
  | ((with_reducible refine s_ex2 ?_); dsimp only [List.set, wipe, List.map])
  | ((with_reducible refine s_ex3 ?_); dsimp only [List.set, wipe, List.map])
  | ((with_reducible refine s_modI ?e ?_); (case e => walk_at "my_ne"))
  | ((with_reducible refine s_powI ?e ?_); (case e => walk_at "my_pow"); (try simp only [Int.reduceToNat, Int.reducePow, Int.reduceAdd, Int.reduceMul]))
  | walk_at "my_call"
  | fail)
local macro_rules | `(tactic| walk_at "my_pow") => `(tactic| first | (exact ⟨by decide, by decide, by decide⟩) | (refine ⟨by decide, by decide, ?_⟩; omega))
local macro_rules | `(tactic| walk_at "my_go") => `(tactic| repeat' walk_at "my_go1")
local macro_rules | `(tactic| walk_at "my_sp") => `(tactic| first
  | (refine s_ite ?_ ?_ <;> intro _)
  | (refine s_iteN ?_ ?_ <;> intro _)
  | (refine s_iteB ?_ ?_ <;> intro _))
local macro_rules | `(tactic| walk_at "my_ne") => `(tactic| first | assumption | omega | decide)
local macro_rules | `(tactic| walk_at "my_side") => `(tactic| first | exact trivial | assumption)
local macro_rules | `(tactic| walk_at "my_bq") => `(tactic| first
  | assumption
  | ((with_reducible apply BQ.add) <;> walk_at "my_bq")
  | ((with_reducible apply BQ.sub) <;> walk_at "my_bq")
  | ((with_reducible apply BQ.mul) <;> walk_at "my_bq")
  | ((with_reducible apply BQ.neg) <;> walk_at "my_bq"))
local macro_rules | `(tactic| walk_at "my_kb") => `(tactic| first | exact kb_ii | exact kb_ib | exact kb_it | exact kb_il | exact kb_bi | exact kb_bb | exact kb_bt | exact kb_bl | exact kb_ti | exact kb_tb | exact kb_tt | exact kb_tl | exact kb_li | exact kb_lb | exact kb_lt | exact kb_ll | exact kb_si | exact kb_sb | exact kb_st | exact kb_sl | exact kb_ni | exact kb_nb | exact kb_nt | exact kb_nl | exact kb_di | exact kb_db | exact kb_dt | exact kb_dl)
local macro_rules | `(tactic| walk_at "my_dec") => `(tactic| first | assumption | exact rfl | decide | omega)
local macro_rules | `(tactic| walk_at "my_o") => `(tactic| first | exact OA.int _ | exact OA.bl _ | exact OA.non | exact OA.str _ | (show rOb _ _ _ _ _; walk_at "my_tr"))
local macro_rules | `(tactic| walk_at "my_os") => `(tactic| first | exact Paired.nil | (apply Paired.cons; (focus walk_at "my_o"); walk_at "my_os"))
local macro_rules | `(tactic| walk_at "my_new") => `(tactic| first
  | ((with_reducible apply s_newTO); (case K => assumption); (case w => walk_at "my_tr"); (case hl => exact len_ok (by simp)); (case hp => walk_at "my_os"); intro _ _ _ _)
  | ((with_reducible apply s_newLO); (case K => assumption); (case w => walk_at "my_tr"); (case hl => exact len_ok (by simp)); (case hp => walk_at "my_os"); intro _ _ _ _ _)
  | ((with_reducible apply s_dnewO); (case K => assumption); (case w => walk_at "my_tr"); intro _ _ _ _))
local macro_rules | `(tactic| walk_at "my_same") => `(tactic| first | assumption | exact Same.refl _ | ((with_reducible apply L2.Same.trans); (case b => assumption); (case a => walk_at "my_same")))

def topS (i : Nat) : Stmt := PySem.Challenge.pw_handedpast_k01_fractions_made.main.body.getD i (.Pass ⟨0, 0, 0, 0⟩)
abbrev s__law_begin : Stmt := topS 6
theorem sc__law_begin : FnScope ["script", "items", "item"] ["script"] (defScope s__law_begin) := ⟨rfl, rfl, rfl, by decide +kernel, rfl, by decide +kernel, by decide +kernel⟩
theorem st__law_begin {x0 : V} : L2.start ["script", "items", "item"] [x0] = [some x0, none, none] := rfl

def sp_begin (K : Fg) : Sp := fun vs H Q _ => ∃ (a : Addr) (ns : List Int), vs = [.ref a] ∧ SqL K H a (ns.map V.int) ∧ ns.length ≤ 63 ∧ ∀ d l H', Same H H' → H d = none → H l = none → DrawAt H' d l 0 → Q (.ref d) H'
theorem c_begin {K : Fg} {H : Hp} {Q : VK} {E : XK} {a : Addr} {ns : List Int} (hs : SqL K H a (ns.map V.int)) (hl : ns.length ≤ 63) (h : ∀ d l H', Same H H' → H d = none → H l = none → DrawAt H' d l 0 → Q (.ref d) H') :
    sp_begin K ([.ref a] ++ []) H Q E := ⟨a, ns, rfl, hs, hl, h⟩
theorem pow18 : (10 : Int) ^ (18 : Int).toNat = 1000000000000000000 := by decide +kernel
section
variable {P : Program} {w : World} {K : PySem.W.Frag} {mg : Str → Option Value} {base : Heap}
theorem ok__law_begin {f : Addr} {fd : FuncData} (F : Fun K "_law_begin" "_law_begin" s__law_begin f fd) (z_abs : mg "abs" = none) : FnOk P w K mg base CX0 1 f fd ["script"] (sp_begin K) := by
  refine F.ok (k := 0) sc__law_begin (fun vs H Q E h => ?_) (fun cdv A outer s H vs Q E hr h => ?_)
  · obtain ⟨a, ns, rfl, hs, hl, q⟩ := h; rfl
  · obtain ⟨a, ns, rfl, hs, hl, q⟩ := h
    refine ⟨_, (pss_cons (ps_setLc (i := 1) (own := [("item", 2)]) rfl sc__law_begin.nd rfl rfl (sw_true rfl rfl rfl (by decide +kernel)) (pi_list (pv 0)) (blkOk_by (own := [("item", 2)]) (N := ["script", "items", "item"]) (sc := defScope s__law_begin) (by decide +kernel)) (fun _ _ _ _ _ => (pg_name (i := 2) sc__law_begin.nd rfl (by first | exact Or.inl rfl | exact Or.inr rfl))) (fun _ _ _ _ _ => pts_nil) (fun _ _ _ _ _ => (pe_callB callAbs (by rfl) z_abs (by decide +kernel) (pa_cons (pv 2) pa_nil))))
      (pss_one (ps_ret (pe_disp (pps_cons pe_str (pe_lc (own := [("item", 2)]) rfl sc__law_begin.nd (pi_list (pv 1)) (blkOk_by (own := [("item", 2)]) (N := ["script", "items", "item"]) (sc := defScope s__law_begin) (by decide +kernel)) (fun _ _ _ _ _ => (pg_name (i := 2) sc__law_begin.nd rfl (by first | exact Or.inl rfl | exact Or.inr rfl))) (fun _ _ _ _ _ => (pts_one (pt_cmpR op_ge (pv 2) (pe_op op_pow pe_int pe_int) (nomark _)))) (fun _ _ _ _ _ => (pv 2))) (pps_cons pe_str (pv 1) (pps_cons pe_str pe_int (pps_cons pe_str pe_int pps_nil)))) (by rfl) (by rfl) (fun z => by cases z) (by decide))))), ?_⟩
    rw [st__law_begin]
    try simp only [cxK, cxK2]

    have M0 : Own (fun _ => False) H := fun _ z => z.elim
    walk_at "my_go"
    refine lc_map (A := rInt) (B := rInt) (M := fun _ => False) ns (fun _ => true) (fun i => (i.natAbs : Int)) ⟨a, _, rfl, hs.elim (fun z => .inl ⟨fun z => z, z⟩) .inr, prd_ints ns⟩ M0 (by omega) ?_ ?_
    · rintro i b v M' H2 Z N hi ht hw rfl hZ hN
      walk_at "my_go"
      exact hZ rfl _ _ (Same.refl _) rfl
    intro i ivs H1 fi s1 ei pi r1
    rw [List.filter_eq_self.mpr (fun _ _ => rfl)] at r1 pi
    have ev := ints_prd pi
    subst ev
    walk_at "my_go"
    intro d hd
    show tPairs _ _ _ _
    unfold tPairs
    walk_at "my_go"
    have s2 : Same H1 (upd H1 d (.dK [])) := Same.upd_new hd
    refine lc_map (A := rInt) (B := rInt) (M := fun b => b = d) _ (fun i => decide (1000000000000000000 ≤ i)) (fun i => i) (Rp.same s2 (Mono.mono (fun b o e _ => ⟨e, fun z => by subst z; rw [hd] at e; cases e⟩) r1)) (fun b m => by subst m; rw [upd_same]; simp) (by rw [List.length_map]; omega) ?_ ?_
    · rintro i b v M' H2 Z N hi ht hw rfl hZ hN
      walk_at "my_go"

      walk_at "my_sp"
      · walk_at "my_go"
        exact hZ (decide_eq_true (by assumption)) _ _ (Same.refl _) rfl
      · exact hN (decide_eq_false (by assumption)) _ (Same.refl _)
    intro l lvs H3 fl s3 el pl r3
    unfold tPairs
    walk_at "my_go"
    unfold tPairs
    walk_at "my_go"
    unfold tPairs
    walk_at "my_go"
    unfold tPairs
    rw [List.map_id'] at pl
    have ev := ints_prd pl
    subst ev
    have hd3 : H3 d = some (.dK []) := s3 _ _ upd_same
    refine ⟨hd3, drawK l i 0 0, rfl, (by show 4 ≤ 15; decide), ?_⟩
    rw [merge_draw]
    have nd : H d = none := s1.free hd
    have h1l : H1 l = none := s2.free fl
    have nl : H l = none := s1.free h1l
    have ld : l ≠ d := fun z => by subst z; rw [upd_same] at fl; cases fl
    have di : i ≠ d := ne_of_none ei hd
    have li : i ≠ l := ne_of_none ei h1l
    refine q d l _ (Same.into (Same.trans (Same.trans s1 s2) s3) nd) nd nl ⟨i, _, _, 0, 0, upd_same, by rw [upd_ne ld]; exact el, by rw [upd_ne di]; exact s3 _ _ (s2 _ _ ei), li, ?_, ?_, ?_, ?_, Int.le_refl _, Int.le_refl _, Int.le_refl _⟩
    · intro y hy
      have := of_decide_eq_true (List.mem_filter.mp hy).2
      omega
    · intro y hy
      obtain ⟨z, _, rfl⟩ := List.mem_map.mp hy
      omega
    · rw [List.length_map]; omega
    · refine Nat.lt_of_le_of_lt (List.length_filter_le _ _) ?_
      rw [List.length_map]; omega
end
abbrev s__law_f : Stmt := topS 9
theorem sc__law_f : FnScope ["n", "d", "a", "b"] ["n", "d"] (defScope s__law_f) := ⟨rfl, rfl, rfl, by decide +kernel, rfl, by decide +kernel, by decide +kernel⟩
theorem st__law_f {x0 x1 : V} : L2.start ["n", "d", "a", "b"] [x0, x1] = [some x0, some x1, none, none] := rfl

theorem emod_fmod {a b : Int} (h : 0 ≤ b) : a.fmod b = a % b := Int.fmod_eq_emod_of_nonneg a h
section
variable {P : Program} {w : World} {K : PySem.W.Frag} {mg : Str → Option Value} {base : Heap}
theorem ok__law_f {f : Addr} {fd : FuncData} (F : Fun K "_law_f" "_law_f" s__law_f f fd) (z_abs : mg "abs" = none) : FnOk P w K mg base CX0 1 f fd ["n", "d"] (sp_div K) := by
  refine F.ok (k := 0) sc__law_f (fun vs H Q E h => ?_) (fun cdv A outer s H vs Q E hr h => ?_)
  · obtain ⟨M, n, d, k, rfl, hd, hb, hk, ow, q⟩ := h; rfl
  · obtain ⟨M, n, d, k, rfl, hd, hb, hk, ow, q⟩ := h
    refine ⟨_, (pss_cons (ps_par (i := 2) (j := 3) rfl sc__law_f.nd rfl rfl (by decide) rfl rfl (pa_cons (pe_callB callAbs (by rfl) z_abs (by decide +kernel) (pa_cons (pv 0) pa_nil)) (pa_cons (pe_callB callAbs (by rfl) z_abs (by decide +kernel) (pa_cons (pv 1) pa_nil)) pa_nil)) (by rfl))
      (pss_cons (ps_while PassesOwn.never (pt_cmpR (opNe hr.units) (pv 3) pe_int (nomark _)) (pss_one (ps_par (i := 2) (j := 3) rfl sc__law_f.nd rfl rfl (by decide) rfl rfl (pa_cons (pv 3) (pa_cons (pe_op op_modN (pv 2) (pv 3)) pa_nil)) (by rfl))))
      (pss_one (ps_ret (pe_ifExp (pt_cmpR op_gt (pv 1) pe_int (nomark _)) (pe_tup (pa_cons (pe_op opDiv (pv 0) (pv 2)) (pa_cons (pe_op opDiv (pv 1) (pv 2)) pa_nil))) (pe_tup (pa_cons (pe_op op_sub pe_int (pe_op opDiv (pv 0) (pv 2))) (pa_cons (pe_op op_sub pe_int (pe_op opDiv (pv 1) (pv 2))) pa_nil)))))))), ?_⟩
    rw [st__law_f]
    try simp only [cxK, cxK2]

    have gp := gcd_pos_of (n := n) hd
    have g0 : ((Nat.gcd n.natAbs d.natAbs : Nat) : Int) ≠ 0 := by omega
    have gb : Bd k ((Nat.gcd n.natAbs d.natAbs : Nat) : Int) := hb.of_le (by
      have := Nat.le_of_dvd (by omega) (Nat.gcd_dvd_right n.natAbs d.natAbs)
      omega)
    have L := low_terms (n := n) hd rfl
    walk_at "my_go"
    refine while_by (fun σ H1 => H1 = H ∧ ∃ a b : Nat, σ = [some (.int n), some (.int d), some (.int (a : Nat)), some (.int (b : Nat))] ∧ Nat.gcd a b = Nat.gcd n.natAbs d.natAbs) (fun σ _ => match σ with | [_, _, _, some (.int b)] => b.toNat | _ => 0) ⟨rfl, _, _, rfl, rfl⟩ ?_ (fun σ H1 Q1 Q2 hq hc => mono_ne hq hc)
    · rintro σ H1 ⟨rfl, a, b, rfl, hg⟩
      walk_at "my_go"
      walk_at "my_sp"
      · rename_i hb0
        walk_at "my_go"
        have e : (a : Int).fmod (b : Int) = ((a % b : Nat) : Int) := by rw [emod_fmod (by omega)]; rfl
        rw [e]
        refine ⟨⟨rfl, b, a % b, rfl, ?_⟩, ?_⟩
        · rw [← hg, Nat.gcd_comm b, ← Nat.gcd_rec, Nat.gcd_comm]
        · show ((a % b : Nat) : Int).toNat < ((b : Nat) : Int).toNat
          have := Nat.mod_lt a (show 0 < b by omega)
          omega
      · rename_i hb0
        have hb1 : b = 0 := by simpa using hb0
        subst hb1
        rw [Nat.gcd_zero_right] at hg
        rw [hg]
        walk_at "my_go"
        walk_at "my_sp"
        · walk_at "my_go"
          refine s_newFr ow ?_ ?_ q
          · rw [fdiv_dvd (gcd_dvd_l n d)]; exact (L.1 (by assumption)).1
          · rw [fdiv_dvd (gcd_dvd_r n d)]; exact (L.1 (by assumption)).2
        · walk_at "my_go"
          refine s_newFr ow ?_ ?_ q
          · rw [fdiv_dvd (gcd_dvd_l n d), Int.zero_sub]; exact (L.2 (by omega)).1
          · rw [fdiv_dvd (gcd_dvd_r n d), Int.zero_sub]; exact (L.2 (by omega)).2
end
abbrev s__law_is_whole : Stmt := topS 17
theorem sc__law_is_whole : FnScope ["thing"] ["thing"] (defScope s__law_is_whole) := ⟨rfl, rfl, rfl, by decide +kernel, rfl, by decide +kernel, by decide +kernel⟩
theorem st__law_is_whole {x0 : V} : L2.start ["thing"] [x0] = [some x0] := rfl

section
variable {P : Program} {w : World} {K : PySem.W.Frag} {mg : Str → Option Value} {base : Heap}
theorem ok__law_is_whole {f : Addr} {fd : FuncData} (F : Fun K "_law_is_whole" "_law_is_whole" s__law_is_whole f fd) (z_bool : mg "bool" = none) (z_int : mg "int" = none) (z_isinstance : mg "isinstance" = none) : FnOk P w K mg base CX0 1 f fd ["thing"] (sp_whole K) := by
  refine F.ok (k := 0) sc__law_is_whole (fun vs H Q E h => ?_) (fun cdv A outer s H vs Q E hr h => ?_)
  · obtain ⟨M, v, o, rfl, hv, q⟩ := h; rfl
  · obtain ⟨M, v, o, rfl, hv, q⟩ := h
    refine ⟨_, (pss_one (ps_ret (pe_and (pe_callB call_isi (by rfl) z_isinstance (by decide +kernel) (pa_cons (pv 0) (pa_cons (pe_bltn (v := .ty "int") (by rfl) z_int (by decide +kernel) rfl) pa_nil))) (pe_one (pe_not (pe_callB call_isi (by rfl) z_isinstance (by decide +kernel) (pa_cons (pv 0) (pa_cons (pe_bltn (v := .ty "bool") (by rfl) z_bool (by decide +kernel) rfl) pa_nil)))))))), ?_⟩
    rw [st__law_is_whole]
    try simp only [cxK, cxK2]

    walk_at "my_go"
    walk_at "my_sp"
    · rename_i h
      walk_at "my_go"
      rw [show (!o.isBl) = o.isInt by cases o <;> simp_all [Ob.isInt, Ob.isBl]]
      exact q
    · rename_i h
      rw [show o.isInt = false by cases o <;> simp_all [Ob.isInt, Ob.isBl]] at q
      exact q
end
abbrev s__law_is_fraction : Stmt := topS 18
theorem sc__law_is_fraction : FnScope ["thing"] ["thing"] (defScope s__law_is_fraction) := ⟨rfl, rfl, rfl, by decide +kernel, rfl, by decide +kernel, by decide +kernel⟩
theorem st__law_is_fraction {x0 : V} : L2.start ["thing"] [x0] = [some x0] := rfl

def sp_lawFrac (K : Fg) : Sp := fun vs H Q _ => ∃ (M : Ms) (v : V) (o : Ob), vs = [v] ∧ rOb K M H v o ∧ (∀ n d, o = .tup [.int n, .int d] → Bd 200 d) ∧ Own M H ∧ ∀ H', Same H H' → Q (.bl o.isFr) H'
theorem c_lawFrac {K : Fg} {M : Ms} {H : Hp} {Q : VK} {E : XK} {v : V} {o : Ob} (h : rOb K M H v o) (hb : ∀ n d, o = .tup [.int n, .int d] → Bd 200 d) (ow : Own M H) (q : ∀ H', Same H H' → Q (.bl o.isFr) H') : sp_lawFrac K ([v] ++ []) H Q E := ⟨M, v, o, rfl, h, hb, ow, q⟩
section
variable {P : Program} {w : World} {K : PySem.W.Frag} {mg : Str → Option Value} {base : Heap}
theorem ok__law_is_fraction {f : Addr} {fd : FuncData} (F : Fun K "_law_is_fraction" "_law_is_fraction" s__law_is_fraction f fd) (G__law_f : Cal P w K mg base CX0 1 "_law_f" ["n", "d"] [] (sp_div K)) (G__law_is_whole : Cal P w K mg base CX0 1 "_law_is_whole" ["thing"] [] (sp_whole K)) (z_isinstance : mg "isinstance" = none) (z_len : mg "len" = none) (z_tuple : mg "tuple" = none) : FnOk P w K mg base CX0 2 f fd ["thing"] (sp_lawFrac K) := by
  refine F.ok (k := 1) sc__law_is_fraction (fun vs H Q E h => ?_) (fun cdv A outer s H vs Q E hr h => ?_)
  · obtain ⟨M, v, o, rfl, hv, hb, ow, q⟩ := h; rfl
  · obtain ⟨M, v, o, rfl, hv, hb, ow, q⟩ := h
    refine ⟨_, (pss_cons (ps_if (PW.pt (pw_or (pt_not (pt_val (pe_callB call_isi (by rfl) z_isinstance (by decide +kernel) (pa_cons (pv 0) (pa_cons (pe_bltn (v := .ty "tuple") (by rfl) z_tuple (by decide +kernel) rfl) pa_nil))))) (pw_or1 (pt_cmpR (opNe hr.units) (pe_callB callLen (by rfl) z_len (by decide +kernel) (pa_cons (pv 0) pa_nil)) pe_int (nomark _))))) (pss_one (ps_ret pe_bl)) pss_nil)
      (pss_cons (ps_if (PW.pt (pw_or (pt_not (pt_val (pe_cal G__law_is_whole (hr.mono (by decide)) (by rfl) pass0 (pa_cons (pe_ix ix_seq (pv 0) pe_int (fun _ _ => rfl)) pa_nil)))) (pw_or (pt_not (pt_val (pe_cal G__law_is_whole (hr.mono (by decide)) (by rfl) pass0 (pa_cons (pe_ix ix_seq (pv 0) pe_int (fun _ _ => rfl)) pa_nil)))) (pw_or1 (pt_cmpR op_lt (pe_ix ix_seq (pv 0) pe_int (fun _ _ => rfl)) pe_int (nomark _)))))) (pss_one (ps_ret pe_bl)) pss_nil)
      (pss_one (ps_ret (pe_cmpR (opEq hr.units) (pe_cal G__law_f (hr.mono (by decide)) (by rfl) pass0 (pa_cons (pe_ix ix_seq (pv 0) pe_int (fun _ _ => rfl)) (pa_cons (pe_ix ix_seq (pv 0) pe_int (fun _ _ => rfl)) pa_nil))) (pv 0) (nomark _)))))), ?_⟩
    rw [st__law_is_fraction]
    try simp only [cxK, cxK2]

    walk_at "my_go"
    cases ht : o.isTup with
    | false =>
      walk_at "my_go"
      have q := q _ (Same.refl _)
      rw [show o.isFr = false by cases o <;> simp_all [Ob.isFr, Ob.isTup]] at q
      exact q
    | true =>
      obtain ⟨xs, rfl⟩ : ∃ xs, o = .tup xs := by cases o <;> simp_all [Ob.isTup]
      walk_at "my_go"
      walk_at "my_sp"
      · rename_i hl
        walk_at "my_go"
        have q := q _ (Same.refl _)
        rw [isFr_no (by omega)] at q
        exact q
      · rename_i hl
        obtain ⟨a, b, rfl⟩ : ∃ a b, xs = [a, b] := by
          match xs, hl with
          | [a, b], _ => exact ⟨a, b, rfl⟩
          | [], hl => simp at hl
          | [_], hl => simp at hl
          | _ :: _ :: _ :: _, hl => simp at hl; omega
        obtain ⟨p, vs, rfl, tp, pr⟩ := OA.tup_inv hv
        obtain ⟨x, y, rfl, hx, hy⟩ : ∃ x y, vs = [x, y] ∧ rOb K M H x a ∧ rOb K M H y b := by
          cases pr with
          | cons r t =>
            cases t with
            | cons r2 t2 => cases t2; exact ⟨_, _, rfl, r, r2⟩
        rw [isFr_two] at q
        walk_at "my_go"
        cases ha : a.isInt with
        | false =>
          rw [ha] at q
          walk_at "my_go"
          exact q _ (Same.refl _)
        | true =>
          obtain ⟨n, rfl⟩ := isInt_inv ha
          cases hx
          rw [ha] at q
          walk_at "my_go"
          cases hb' : b.isInt with
          | false =>
            rw [hb'] at q
            walk_at "my_go"
            exact q _ (Same.refl _)
          | true =>
            obtain ⟨d, rfl⟩ := isInt_inv hb'
            cases hy
            rw [hb'] at q
            have bd := hb n d rfl
            walk_at "my_go"
            walk_at "my_sp"
            · rename_i h1
              walk_at "my_go"
              have q := q _ (Same.refl _)
              dsimp only at q
              rw [show decide (1 ≤ d) = false from decide_eq_false (by omega)] at q
              simpa using q
            · rename_i h1
              walk_at "my_go"
              rename_i w H2 s2 r2
              refine s_eqD (A := rT2 rInt rInt) (fr_t2 r2) (tup_t2 (tp.same s2)) ?_
              have q := q _ s2
              dsimp only at q
              rw [show decide (1 ≤ d) = true from decide_eq_true (by omega)] at q
              rw [show decide ((((n : Rat) / (d : Rat)).num, (((n : Rat) / (d : Rat)).den : Int)) = (n, d)) = decide (Nat.gcd n.natAbs d.natAbs = 1) from decide_eq_decide.mpr (by rw [Prod.mk.injEq]; exact fr_low (by omega))]
              simpa using q
end
abbrev s__law_take : Stmt := topS 7
theorem sc__law_take : FnScope ["draw", "size", "found", "turn", "item", "mixed"] ["draw", "size"] (defScope s__law_take) := ⟨rfl, rfl, rfl, by decide +kernel, rfl, by decide +kernel, by decide +kernel⟩
theorem st__law_take {x0 x1 : V} : L2.start ["draw", "size", "found", "turn", "item", "mixed"] [x0, x1] = [some x0, some x1, none, none, none, none] := rfl

def sp_take (K : Fg) : Sp := fun vs H Q _ => ∃ (d l : Addr) (N : Nat) (size : Int), vs = [.ref d, .int size] ∧ DrawAt H d l N ∧ 0 < size ∧ Bd 8000 size ∧ N < 1000000000 ∧ ∀ r H', But d l H H' → DrawAt H' d l (N + 1) → 0 ≤ r → r < size → Q (.int r) H'
theorem c_take {K : Fg} {H : Hp} {Q : VK} {E : XK} {d l : Addr} {N : Nat} {size : Int} (hd : DrawAt H d l N) (h0 : 0 < size) (hb : Bd 8000 size) (hN : N < 1000000000) (h : ∀ r H', But d l H H' → DrawAt H' d l (N + 1) → 0 ≤ r → r < size → Q (.int r) H') :
    sp_take K ([.ref d, .int size] ++ []) H Q E := ⟨d, l, N, size, rfl, hd, h0, hb, hN, h⟩
theorem bd8k {i : Int} (h : i.natAbs < 2 ^ 64) : Bd 8000 i := Bd.mono (j := 64) h (by omega)
local macro_rules | `(tactic| walk_at "my_call") => `(tactic| ((with_reducible apply c_take); (case hd => walk_at "my_tr"); (case h0 => first | decide | omega); (case hb => first | exact bd8k (by decide +kernel) | exact bd8k (by omega)); (case hN => omega); intro _ _ _ _ _ _))
section
variable {P : Program} {w : World} {K : PySem.W.Frag} {mg : Str → Option Value} {base : Heap}
theorem ok__law_take {f : Addr} {fd : FuncData} (F : Fun K "_law_take" "_law_take" s__law_take f fd) (z_len : mg "len" = none) : FnOk P w K mg base CX0 1 f fd ["draw", "size"] (sp_take K) := by
  refine F.ok (k := 0) sc__law_take (fun vs H Q E h => ?_) (fun cdv A outer s H vs Q E hr h => ?_)
  · obtain ⟨d, l, N, size, rfl, D0, h0, hs, hN, q⟩ := h; rfl
  · obtain ⟨d, l, N, size, rfl, D0, h0, hs, hN, q⟩ := h
    refine ⟨_, (pss_cons (ps_if (PW.pt (pw_and (pt_cmpR (opEq hr.units) (pe_dget (hu_of hr) (pv 0) pe_str (fun _ _ => rfl)) pe_int (nomark _)) (pw_and1 (pt_cmpR (opNe hr.units) (pe_dget (hu_of hr) (pv 0) pe_str (fun _ _ => rfl)) (pe_lst pa_nil) (nomark _))))) (pss_one (ps_dput (hu_of hr) (pv 0) pe_str (pe_bm PySem.F.plainAttrs_list PySem.F.slot_list_pop PySem.F.type_list_pop mt_popAt (pe_dget (hu_of hr) (pv 0) pe_str (fun _ _ => rfl)) (pa_cons pe_int pa_nil)) rfl)) pss_nil)
      (pss_cons (ps_if (pt_cmpR op_gt (pe_dget (hu_of hr) (pv 0) pe_str (fun _ _ => rfl)) pe_int (nomark _)) (pss_cons (ps_set (i := 2) sc__law_take.nd rfl (by first | exact Or.inl rfl | exact Or.inr rfl) (pe_op op_modN (pe_dget (hu_of hr) (pv 0) pe_str (fun _ _ => rfl)) (pv 1)))
      (pss_cons (ps_dput (hu_of hr) (pv 0) pe_str (pe_op opDiv (pe_dget (hu_of hr) (pv 0) pe_str (fun _ _ => rfl)) (pv 1)) rfl)
      (pss_one (ps_ret (pv 2))))) pss_nil)
      (pss_cons (ps_set (i := 3) sc__law_take.nd rfl (by first | exact Or.inl rfl | exact Or.inr rfl) (pe_op opAdd (pe_dget (hu_of hr) (pv 0) pe_str (fun _ _ => rfl)) pe_int))
      (pss_cons (ps_dput (hu_of hr) (pv 0) pe_str (pv 3) rfl)
      (pss_cons (ps_set (i := 4) sc__law_take.nd rfl (by first | exact Or.inl rfl | exact Or.inr rfl) pe_int)
      (pss_cons (ps_if (pt_cmpR (opNe hr.units) (pe_dget (hu_of hr) (pv 0) pe_str (fun _ _ => rfl)) (pe_lst pa_nil) (nomark _)) (pss_one (ps_set (i := 4) sc__law_take.nd rfl (by first | exact Or.inl rfl | exact Or.inr rfl) (pe_ix ix_seq (pe_dget (hu_of hr) (pv 0) pe_str (fun _ _ => rfl)) (pe_op op_modN (pv 3) (pe_callB callLen (by rfl) z_len (by decide +kernel) (pa_cons (pe_dget (hu_of hr) (pv 0) pe_str (fun _ _ => rfl)) pa_nil))) (fun _ _ => rfl)))) pss_nil)
      (pss_cons (ps_set (i := 5) sc__law_take.nd rfl (by first | exact Or.inl rfl | exact Or.inr rfl) (pe_op op_modN (pe_op op_pow (pe_op opAdd (pe_op opAdd (pe_op op_modN (pv 4) pe_int) (pe_op opMul pe_int (pv 3))) pe_int) pe_int) pe_int))
      (pss_one (ps_ret (pe_op op_modN (pe_op opDiv (pe_op op_modN (pe_op op_pow (pe_op opAdd (pv 5) (pe_op opMul pe_int (pv 3))) pe_int) pe_int) pe_int) (pv 1))))))))))), ?_⟩
    rw [st__law_take]
    try simp only [cxK, cxK2]

    refine s_cut (fun σ' H' => σ' = [some (.ref d), some (.int size), none, none, none, none] ∧ But d l H H' ∧ DrawAt H' d l N) ?_ ?_
    · rintro σ H1 ⟨rfl, b1, D1⟩
      obtain ⟨i, xs, ls, x, t, hd, hl, hi, ne, pl, px, nx, nl, x0, t0, tN⟩ := D1.ex
      have dl : d ≠ l := ne_of hd hl (by intro z; cases z)
      have di : d ≠ i := ne_of hd hi (by intro z; cases z)
      walk_at "my_go"
      refine s_getLeft hd ?_
      walk_at "my_go"
      walk_at "my_sp"
      · rename_i hx
        walk_at "my_go"
        refine s_getLeft hd ?_
        walk_at "my_go"
        refine s_getLeft hd ?_
        walk_at "my_go"
        refine s_putLeft hd ?_
        walk_at "my_go"
        have e : x.fmod size = x % size := Int.fmod_eq_emod_of_nonneg x (by omega)
        rw [e]
        refine q _ _ (b1.trans ⟨fun b o z n m => by rw [upd_ne n]; exact z, by rw [upd_same]; simp, by rw [upd_ne dl.symm, hl]; simp⟩) ⟨i, xs, ls, _, t, upd_same, by rw [upd_ne dl.symm]; exact hl, by rw [upd_ne di.symm]; exact hi, ne, pl, px, nx, nl, ?_, t0, by omega⟩ (Int.emod_nonneg _ (by omega)) (Int.emod_lt_of_pos _ h0)
        rw [Int.fdiv_eq_ediv_of_nonneg _ (by omega)]
        exact Int.ediv_nonneg x0 (by omega)
      · walk_at "my_go"
        refine s_getTurn hd ?_
        walk_at "my_go"
        refine s_putTurn hd ?_
        have b2 : But d l H (upd H1 d (.dK (drawK l i x (t + 1)))) := b1.trans ⟨fun b o z n m => by rw [upd_ne n]; exact z, by rw [upd_same]; simp, by rw [upd_ne dl.symm, hl]; simp⟩
        have D2 : DrawAt (upd H1 d (.dK (drawK l i x (t + 1)))) d l (N + 1) := ⟨i, xs, ls, x, t + 1, upd_same, by rw [upd_ne dl.symm]; exact hl, by rw [upd_ne di.symm]; exact hi, ne, pl, px, nx, nl, x0, by omega, by omega⟩
        have hd2 : (upd H1 d (.dK (drawK l i x (t + 1)))) d = some (.dK (drawK l i x (t + 1))) := upd_same
        have hi2 : (upd H1 d (.dK (drawK l i x (t + 1)))) i = some (.lst (xs.map V.int)) := by rw [upd_ne di.symm]; exact hi
        generalize (upd H1 d (.dK (drawK l i x (t + 1)))) = H2 at *
        walk_at "my_go1"
        walk_at "my_go1"
        walk_at "my_go1"
        walk_at "my_go1"
        refine s_cut (fun σ' H' => ∃ it : Int, σ' = [some (.ref d), some (.int size), none, some (.int (t + 1)), some (.int it), none] ∧ Same H2 H') ?_ ?_
        · rintro σ H3 ⟨it, rfl, s3⟩
          have bt : Bd 64 (t + 1) := by unfold Bd; omega
          have e1 : ∀ z : Int, 0 ≤ z.fmod 2147483629 ∧ z.fmod 2147483629 < 2147483629 := fun z => ⟨Int.fmod_nonneg_of_pos _ (by decide), Int.fmod_lt_of_pos _ (by decide)⟩
          have e2 : ∀ z : Int, 0 ≤ z.fmod 2147483647 ∧ z.fmod 2147483647 < 2147483647 := fun z => ⟨Int.fmod_nonneg_of_pos _ (by decide), Int.fmod_lt_of_pos _ (by decide)⟩
          walk_at "my_go"
          have := e1 it
          refine s_powI ⟨by decide, by decide, by omega⟩ ?_
          simp only [Int.reduceToNat]
          walk_at "my_go"
          generalize ((it.fmod 2147483629 + 69621 * (t + 1) + 12345) ^ 3) = g
          have := e2 g
          refine s_powI ⟨by decide, by decide, by omega⟩ ?_
          walk_at "my_go"
          exact q _ _ (b2.same s3) (D2.same s3) (Int.fmod_nonneg_of_pos _ h0) (Int.fmod_lt_of_pos _ h0)
        · intro Nx hk
          walk_at "my_go"
          refine s_getItems hd2 ?_
          walk_at "my_go"
          refine s_newNil (K := K) ?_
          intro p H3 s3 r3
          refine s_neD (rL_ints (s3 _ _ hi2)) r3 ?_
          walk_at "my_go"
          walk_at "my_sp"
          · rename_i hne
            have lp : 0 < xs.length := List.length_pos_iff.mpr hne
            have hx : rL rInt K (fun _ => False) H3 (.ref i) xs := rL_ints (s3 _ _ hi2)
            walk_at "my_go"
            refine s_getItems (s3 _ _ hd2) ?_
            walk_at "my_go"
            refine s_getItems (s3 _ _ hd2) ?_
            walk_at "my_go"
            have a1 : 0 ≤ (t + 1).fmod (xs.length : Int) := Int.fmod_nonneg_of_pos _ (by omega)
            have a2 : (t + 1).fmod (xs.length : Int) < (xs.length : Int) := Int.fmod_lt_of_pos _ (by omega)
            refine s_ixL hx (List.getElem?_eq_getElem (by omega : ((t + 1).fmod (xs.length : Int)).toNat < xs.length)) (ixN_pos a1 a2) ?_
            rintro y rfl
            walk_at "my_go"
            exact hk _ _ ⟨_, rfl, s3⟩
          · walk_at "my_go"
            exact hk _ _ ⟨_, rfl, s3⟩
    · intro Nx hk
      obtain ⟨i, xs, ls, x, t, hd, hl, hi, ne, pl, px, nx, nl, x0, t0, tN⟩ := D0.ex
      have dl : d ≠ l := ne_of hd hl (by intro z; cases z)
      have di : d ≠ i := ne_of hd hi (by intro z; cases z)
      walk_at "my_go"
      refine s_getLeft hd ?_
      walk_at "my_go"
      walk_at "my_sp"
      · walk_at "my_go"
        refine s_getLarge hd ?_
        walk_at "my_go"
        refine s_newNil (K := K) ?_
        intro p H3 s3 r3
        refine s_neD (rL_ints (s3 _ _ hl)) r3 ?_
        walk_at "my_go"
        walk_at "my_sp"
        · rename_i hne
          walk_at "my_go"
          refine s_getLarge (s3 _ _ hd) ?_
          walk_at "my_go"
          obtain ⟨y, ls', rfl⟩ : ∃ y ls', ls = y :: ls' := by
            cases ls with
            | nil => exact absurd rfl hne
            | cons y ls' => exact ⟨y, ls', rfl⟩
          refine ⟨.inl ⟨rfl, _, SqL.of (s3 _ _ hl)⟩, ?_⟩
          walk_at "my_go"
          refine ⟨l, _, 0, 0, V.int y, rfl, rfl, s3 _ _ hl, by decide, by decide, seq_zero (by simp), rfl, ?_⟩
          walk_at "my_go"
          refine s_putLeft (l := l) (i := i) (a := x) (b := t) (by rw [upd_ne dl]; exact s3 _ _ hd) ?_
          refine hk _ _ ⟨rfl, ⟨fun b o z n m => by rw [upd_ne n, upd_ne m]; exact s3 _ _ z, by rw [upd_same]; simp, by rw [upd_ne dl.symm, upd_same]; simp⟩, ⟨i, xs, ls', y, t, upd_same, by rw [upd_ne dl.symm, upd_same]; rfl, by rw [upd_ne di.symm, upd_ne ne]; exact s3 _ _ hi, ne, fun z hz => pl z (List.mem_cons_of_mem _ hz), px, nx, by simp at nl; omega, pl y (List.mem_cons_self ..), t0, tN⟩⟩
        · walk_at "my_go"
          exact hk _ _ ⟨rfl, But.of_same s3 D0, D0.same s3⟩
      · walk_at "my_go"
        exact hk _ _ ⟨rfl, But.of_same (Same.refl _) D0, D0⟩
end
abbrev s__law_pick : Stmt := topS 8
theorem sc__law_pick : FnScope ["draw", "some"] ["draw", "some"] (defScope s__law_pick) := ⟨rfl, rfl, rfl, by decide +kernel, rfl, by decide +kernel, by decide +kernel⟩
theorem st__law_pick {x0 x1 : V} : L2.start ["draw", "some"] [x0, x1] = [some x0, some x1] := rfl

def sp_pick (K : Fg) : Sp := fun vs H Q _ => ∃ (α : Type) (A : Rp α) (_ : Mono A) (M : Ms) (d l : Addr) (N : Nat) (x : V) (as : List α), vs = [.ref d, x] ∧ DrawAt H d l N ∧ M d ∧ M l ∧ rL A K M H x as ∧ 0 < as.length ∧ as.length < 1000000 ∧ N < 1000000000 ∧
  ∀ (y : V) (a : α) H', But d l H H' → DrawAt H' d l (N + 1) → a ∈ as → A K M H' y a → Q y H'
theorem c_pick {α : Type} {A : Rp α} [i : Mono A] {K : Fg} {M : Ms} {H : Hp} {Q : VK} {E : XK} {d l : Addr} {N : Nat} {x : V} {as : List α} (hd : DrawAt H d l N) (md : M d) (ml : M l) (hx : rL A K M H x as) (h0 : 0 < as.length) (h1 : as.length < 1000000) (hN : N < 1000000000)
    (h : ∀ (y : V) (a : α) H', But d l H H' → DrawAt H' d l (N + 1) → a ∈ as → A K M H' y a → Q y H') : sp_pick K ([.ref d, x] ++ []) H Q E := ⟨α, A, i, M, d, l, N, x, as, rfl, hd, md, ml, hx, h0, h1, hN, h⟩
section
variable {P : Program} {w : World} {K : PySem.W.Frag} {mg : Str → Option Value} {base : Heap}
theorem ok__law_pick {f : Addr} {fd : FuncData} (F : Fun K "_law_pick" "_law_pick" s__law_pick f fd) (G__law_take : Cal P w K mg base CX0 1 "_law_take" ["draw", "size"] [] (sp_take K)) (z_len : mg "len" = none) : FnOk P w K mg base CX0 2 f fd ["draw", "some"] (sp_pick K) := by
  refine F.ok (k := 1) sc__law_pick (fun vs H Q E h => ?_) (fun cdv A outer s H vs Q E hr h => ?_)
  · obtain ⟨α, A, mo, M, d, l, N, x, as, rfl, D0, md, ml, hx, h0, h1, hN, q⟩ := h; rfl
  · obtain ⟨α, A, mo, M, d, l, N, x, as, rfl, D0, md, ml, hx, h0, h1, hN, q⟩ := h
    refine ⟨_, (pss_one (ps_ret (pe_ix ix_seq (pv 1) (pe_cal G__law_take (hr.mono (by decide)) (by rfl) pass0 (pa_cons (pv 0) (pa_cons (pe_callB callLen (by rfl) z_len (by decide +kernel) (pa_cons (pv 1) pa_nil)) pa_nil))) (fun _ _ => rfl)))), ?_⟩
    rw [st__law_pick]
    try simp only [cxK, cxK2]

    walk_at "my_go"
    rename_i r H1 b1 D1 r0 r1
    refine s_ixL (Rp.but b1 md ml hx) (List.getElem?_eq_getElem (by omega : r.toNat < as.length)) (ixN_pos r0 r1) ?_
    intro y hy
    exact q _ _ _ b1 D1 (List.getElem_mem _) hy
end
abbrev s__law_number : Stmt := topS 14
theorem sc__law_number : FnScope ["draw", "kind", "large"] ["draw"] (defScope s__law_number) := ⟨rfl, rfl, rfl, by decide +kernel, rfl, by decide +kernel, by decide +kernel⟩
theorem st__law_number {x0 : V} : L2.start ["draw", "kind", "large"] [x0] = [some x0, none, none] := rfl

def sp_number (_ : Fg) : Sp := fun vs H Q _ => ∃ (d l : Addr) (N : Nat), vs = [.ref d] ∧ DrawAt H d l N ∧ N < 999999000 ∧ ∀ i H', But d l H H' → DrawAt H' d l (N + 5) → Bd 64 i → Q (.int i) H'
theorem c_number {K : Fg} {H : Hp} {Q : VK} {E : XK} {d l : Addr} {N : Nat} (hd : DrawAt H d l N) (hN : N < 999999000) (h : ∀ i H', But d l H H' → DrawAt H' d l (N + 5) → Bd 64 i → Q (.int i) H') :
    sp_number K ([.ref d] ++ []) H Q E := ⟨d, l, N, rfl, hd, hN, h⟩
local macro_rules | `(tactic| walk_at "my_call") => `(tactic| ((with_reducible apply c_number); (case hd => walk_at "my_tr"); (case hN => omega); intro _ _ _ _ _))
section
variable {P : Program} {w : World} {K : PySem.W.Frag} {mg : Str → Option Value} {base : Heap}
theorem ok__law_number {f : Addr} {fd : FuncData} (F : Fun K "_law_number" "_law_number" s__law_number f fd) (G__law_pick : Cal P w K mg base CX0 2 "_law_pick" ["draw", "some"] [] (sp_pick K)) (G__law_take : Cal P w K mg base CX0 1 "_law_take" ["draw", "size"] [] (sp_take K)) : FnOk P w K mg base CX0 3 f fd ["draw"] (sp_number K) := by
  refine F.ok (k := 2) sc__law_number (fun vs H Q E h => ?_) (fun cdv A outer s H vs Q E hr h => ?_)
  · obtain ⟨d, l, N, rfl, D0, hN, q⟩ := h; rfl
  · obtain ⟨d, l, N, rfl, D0, hN, q⟩ := h
    refine ⟨_, (pss_cons (ps_set (i := 1) sc__law_number.nd rfl (by first | exact Or.inl rfl | exact Or.inr rfl) (pe_cal G__law_take (hr.mono (by decide)) (by rfl) pass0 (pa_cons (pv 0) (pa_cons pe_int pa_nil))))
      (pss_cons (ps_if (pt_cmpR op_lt (pv 1) pe_int (nomark _)) (pss_one (ps_ret (pe_op op_sub (pe_cal G__law_take (hr.mono (by decide)) (by rfl) pass0 (pa_cons (pv 0) (pa_cons pe_int pa_nil))) pe_int))) pss_nil)
      (pss_cons (ps_if (pt_cmpR (opEq hr.units) (pv 1) pe_int (nomark _)) (pss_one (ps_ret (pe_op op_sub (pe_cal G__law_take (hr.mono (by decide)) (by rfl) pass0 (pa_cons (pv 0) (pa_cons pe_int pa_nil))) pe_int))) pss_nil)
      (pss_cons (ps_set (i := 2) sc__law_number.nd rfl (by first | exact Or.inl rfl | exact Or.inr rfl) (pe_op opAdd (pe_op opAdd (pe_op opMul (pe_cal G__law_take (hr.mono (by decide)) (by rfl) pass0 (pa_cons (pv 0) (pa_cons (pe_op op_pow pe_int pe_int) pa_nil))) (pe_op op_pow pe_int pe_int)) (pe_op opMul (pe_cal G__law_take (hr.mono (by decide)) (by rfl) pass0 (pa_cons (pv 0) (pa_cons (pe_op op_pow pe_int pe_int) pa_nil))) pe_int)) (pe_cal G__law_take (hr.mono (by decide)) (by rfl) pass0 (pa_cons (pv 0) (pa_cons pe_int pa_nil)))))
      (pss_one (ps_ret (pe_cal G__law_pick (hr.mono (by decide)) (by rfl) pass0 (pa_cons (pv 0) (pa_cons (pe_lst (pa_cons (pv 2) (pa_cons (pe_op op_sub pe_int (pv 2)) pa_nil))) pa_nil))))))))), ?_⟩
    rw [st__law_number]
    try simp only [cxK, cxK2]

    walk_at "my_go"
    rename_i kind H1 b1 D1 k0 k8
    walk_at "my_sp"
    · walk_at "my_go"
      rename_i r H2 b2 D2 r0 r1
      exact q _ _ (b1.trans b2) (D2.le (by omega)) (by unfold Bd; omega)
    · walk_at "my_go"
      walk_at "my_sp"
      · walk_at "my_go"
        rename_i r H2 b2 D2 r0 r1
        exact q _ _ (b1.trans b2) (D2.le (by omega)) (by unfold Bd; omega)
      · walk_at "my_go"
        rename_i r1 H2 b2 D2 p1 p2 r2 H3 b3 D3 p3 p4 r3 H4 b4 D4 p5 p6
        refine s_newL (A := rInt) (K := K) (M := mDraw d l) D4.own (by show 2 ≤ sizeLine; decide) (.cons rfl (.cons rfl .nil)) ?_
        intro v H5 s5 rv
        walk_at "my_go"
        refine c_pick (D4.same s5) (.inl rfl) (.inr rfl) rv (by simp) (by simp) (by omega) ?_
        rintro y a H6 b6 D6 hm rfl
        refine q _ _ (((((b1.trans b2).trans b3).trans b4).same s5).trans b6) D6 ?_
        simp only [List.mem_cons, List.not_mem_nil, or_false] at hm
        unfold Bd
        omega
end
abbrev s__law_odd : Stmt := topS 19
theorem sc__law_odd : FnScope ["draw", "n", "d", "some"] ["draw", "n", "d"] (defScope s__law_odd) := ⟨rfl, rfl, rfl, by decide +kernel, rfl, by decide +kernel, by decide +kernel⟩
theorem st__law_odd {x0 x1 x2 : V} : L2.start ["draw", "n", "d", "some"] [x0, x1, x2] = [some x0, some x1, some x2, none] := rfl

def sp_odd (K : Fg) : Sp := fun vs H Q _ => ∃ (M : Ms) (d l : Addr) (N : Nat) (n e : Int), vs = [.ref d, .int n, .int e] ∧ DrawAt H d l N ∧ M d ∧ M l ∧ Own M H ∧ N < 999998000 ∧ Bd 64 n ∧ Bd 64 e ∧
  ∀ v o H', But d l H H' → DrawAt H' d l (N + 1) → rOb K M H' v o → (∀ m k, o = .tup [.int m, .int k] → Bd 200 k) → Q v H'
theorem c_odd {K : Fg} {M : Ms} {H : Hp} {Q : VK} {E : XK} {d l : Addr} {N : Nat} {n e : Int} (hd : DrawAt H d l N) (md : M d) (ml : M l) (ow : Own M H) (hN : N < 999998000) (bn : Bd 64 n) (be : Bd 64 e)
    (h : ∀ v o H', But d l H H' → DrawAt H' d l (N + 1) → rOb K M H' v o → (∀ m k, o = .tup [.int m, .int k] → Bd 200 k) → Q v H') : sp_odd K ([.ref d, .int n, .int e] ++ []) H Q E := ⟨M, d, l, N, n, e, rfl, hd, md, ml, ow, hN, bn, be, h⟩
section
variable {P : Program} {w : World} {K : PySem.W.Frag} {mg : Str → Option Value} {base : Heap}
theorem ok__law_odd {f : Addr} {fd : FuncData} (F : Fun K "_law_odd" "_law_odd" s__law_odd f fd) (G__law_f : Cal P w K mg base CX0 1 "_law_f" ["n", "d"] [] (sp_div K)) (G__law_pick : Cal P w K mg base CX0 2 "_law_pick" ["draw", "some"] [] (sp_pick K)) (z_abs : mg "abs" = none) : FnOk P w K mg base CX0 3 f fd ["draw", "n", "d"] (sp_odd K) := by
  refine F.ok (k := 2) sc__law_odd (fun vs H Q E h => ?_) (fun cdv A outer s H vs Q E hr h => ?_)
  · obtain ⟨M, d, l, N, n, e, rfl, D0, md, ml, ow, hN, bn, be, q⟩ := h; rfl
  · obtain ⟨M, d, l, N, n, e, rfl, D0, md, ml, ow, hN, bn, be, q⟩ := h
    refine ⟨_, (pss_cons (ps_set (i := 3) sc__law_odd.nd rfl (by first | exact Or.inl rfl | exact Or.inr rfl) (pe_lst (pa_cons (pe_tup (pa_cons (pv 1) (pa_cons (pv 2) pa_nil))) (pa_cons (pe_tup (pa_cons (pv 1) (pa_cons (pe_callB callAbs (by rfl) z_abs (by decide +kernel) (pa_cons (pv 2) pa_nil)) pa_nil))) (pa_cons (pe_cal G__law_f (hr.mono (by decide)) (by rfl) pass0 (pa_cons (pv 1) (pa_cons (pe_op opAdd (pe_op opMul (pv 2) (pv 2)) pe_int) pa_nil))) (pa_cons (pe_lst (pa_cons (pv 1) (pa_cons (pv 2) pa_nil))) (pa_cons (pe_tup (pa_cons (pv 1) pa_nil)) (pa_cons (pe_tup (pa_cons (pv 1) (pa_cons pe_int (pa_cons pe_int pa_nil)))) (pa_cons (pe_tup (pa_cons pe_bl (pa_cons pe_int pa_nil))) (pa_cons (pe_tup (pa_cons (pv 1) (pa_cons pe_bl pa_nil))) (pa_cons (pe_tup (pa_cons (pv 1) (pa_cons pe_int pa_nil))) (pa_cons (pe_tup (pa_cons pe_int (pa_cons (pv 2) pa_nil))) pa_nil))))))))))))
      (pss_cons (ps_set (i := 3) sc__law_odd.nd rfl (by first | exact Or.inl rfl | exact Or.inr rfl) (pe_op opAdd (pv 3) (pe_lst (pa_cons pe_non (pa_cons (pv 1) (pa_cons pe_str (pa_cons (pe_tup (pa_cons pe_str (pa_cons pe_int pa_nil))) (pa_cons (pe_tup (pa_cons (pv 1) (pa_cons pe_non pa_nil))) (pa_cons (pe_tup (pa_cons (pe_tup (pa_cons pe_int (pa_cons pe_int pa_nil))) (pa_cons pe_int pa_nil))) (pa_cons (pe_tup (pa_cons (pv 1) (pa_cons pe_str pa_nil))) (pa_cons pe_dnewK (pa_cons (pe_lst pa_nil) (pa_cons (pe_tup pa_nil) (pa_cons pe_bl (pa_cons (pe_tup (pa_cons pe_int (pa_cons pe_int pa_nil))) (pa_cons (pe_tup (pa_cons (pe_op opMul pe_int (pv 1)) (pa_cons pe_int pa_nil))) pa_nil))))))))))))))))
      (pss_one (ps_ret (pe_cal G__law_pick (hr.mono (by decide)) (by rfl) pass0 (pa_cons (pv 0) (pa_cons (pv 3) pa_nil))))))), ?_⟩
    rw [st__law_odd]
    try simp only [cxK, cxK2]

    have hdd : 0 ≤ e * e := by
      have := Int.natAbs_mul_self (a := e)
      omega
    have hne : e * e + 1 ≠ 0 := by omega
    have bee : Bd 130 (e * e + 1) := ((be.mul be).add (show Bd 128 1 by unfold Bd; decide)).mono (by omega)
    walk_at "my_go"
    refine s_newTO (K := K) (M := M) (by walk_at "my_tr") (len_ok (by simp)) (by walk_at "my_os") ?_
    intro v1 H1 s1 r1
    walk_at "my_go"
    refine s_newTO (K := K) (M := M) (by walk_at "my_tr") (len_ok (by simp)) (by walk_at "my_os") ?_
    intro v2 H2 s2 r2
    walk_at "my_go"
    rename_i v3 H3 s3 r3'
    have r3 := fr_ob r3'
    have bq := BQ.of_parts hne (bn.mono (show 64 ≤ 130 by omega)) bee
    generalize ((n : Rat) / ((e * e + 1 : Int) : Rat)) = fq at *
    walk_at "my_new"
    walk_at "my_go"
    walk_at "my_new"
    walk_at "my_go"
    walk_at "my_new"
    walk_at "my_go"
    walk_at "my_new"
    walk_at "my_go"
    walk_at "my_new"
    walk_at "my_go"
    walk_at "my_new"
    walk_at "my_go"
    walk_at "my_new"
    walk_at "my_go"
    refine s_newLx (A := rOb) (K := K) (M := M) (by walk_at "my_tr") (len_ok (by simp)) (by walk_at "my_os") ?_
    intro p1 H4 s4 e4 pr4
    walk_at "my_go"
    walk_at "my_new"
    walk_at "my_go"
    walk_at "my_new"
    walk_at "my_go"
    walk_at "my_new"
    walk_at "my_go"
    walk_at "my_new"
    walk_at "my_go"
    walk_at "my_new"
    walk_at "my_go"
    walk_at "my_new"
    walk_at "my_go"
    walk_at "my_new"
    walk_at "my_go"
    walk_at "my_new"
    walk_at "my_go"
    walk_at "my_new"
    walk_at "my_go"
    walk_at "my_new"
    walk_at "my_go"
    refine s_newLx (A := rOb) (K := K) (M := M) (by walk_at "my_tr") (len_ok (by simp)) (by walk_at "my_os") ?_
    intro p2 H5 s5 e5 pr5
    walk_at "my_go"
    refine s_cat (A := rOb) (M := M) (by walk_at "my_tr") (p := p1) (q := p2) (by walk_at "my_tr") e5 (by walk_at "my_tr") pr5 (by simp) ?_
    intro v6 H6 s6 r6
    walk_at "my_go"
    refine c_pick (by walk_at "my_tr") md ml r6 (by simp) (by simp) (by omega) ?_
    intro y o H7 b7 D7 hm ry
    refine q _ _ _ (But.same' (by walk_at "my_same") b7) D7 ry ?_
    rintro m k rfl
    simp only [List.mem_append, List.mem_cons, List.not_mem_nil, or_false, Ob.tup.injEq, List.cons.injEq, Ob.int.injEq, reduceCtorEq, and_false, false_and, false_or, and_true] at hm
    have bqd := bq.2
    trace_state
    unfold Bd at *
    omega
end
abbrev s_is_whole : Stmt := topS 2
theorem sc_is_whole : FnScope ["value"] ["value"] (defScope s_is_whole) := ⟨rfl, rfl, rfl, by decide +kernel, rfl, by decide +kernel, by decide +kernel⟩
theorem st_is_whole {x0 : V} : L2.start ["value"] [x0] = [some x0] := rfl

section
variable {P : Program} {w : World} {K : PySem.W.Frag} {mg : Str → Option Value} {base : Heap}
theorem ok_is_whole {f : Addr} {fd : FuncData} (F : Fun K "is_whole" "is_whole" s_is_whole f fd) (z_bool : mg "bool" = none) (z_int : mg "int" = none) (z_isinstance : mg "isinstance" = none) : FnOk P w K mg base CX0 1 f fd ["value"] (sp_whole K) := by
  refine F.ok (k := 0) sc_is_whole (fun vs H Q E h => ?_) (fun cdv A outer s H vs Q E hr h => ?_)
  · obtain ⟨M, v, o, rfl, hv, q⟩ := h; rfl
  · obtain ⟨M, v, o, rfl, hv, q⟩ := h
    refine ⟨_, (pss_one (ps_ret (pe_and (pe_callB call_isi (by rfl) z_isinstance (by decide +kernel) (pa_cons (pv 0) (pa_cons (pe_bltn (v := .ty "int") (by rfl) z_int (by decide +kernel) rfl) pa_nil))) (pe_one (pe_not (pe_callB call_isi (by rfl) z_isinstance (by decide +kernel) (pa_cons (pv 0) (pa_cons (pe_bltn (v := .ty "bool") (by rfl) z_bool (by decide +kernel) rfl) pa_nil)))))))), ?_⟩
    rw [st_is_whole]
    try simp only [cxK, cxK2]

    walk_at "my_go"
    walk_at "my_sp"
    · rename_i h
      walk_at "my_go"
      rw [show (!o.isBl) = o.isInt by cases o <;> simp_all [Ob.isInt, Ob.isBl]]
      exact q
    · rename_i h
      rw [show o.isInt = false by cases o <;> simp_all [Ob.isInt, Ob.isBl]] at q
      exact q
end
abbrev s_is_fraction : Stmt := topS 3
theorem sc_is_fraction : FnScope ["value", "n", "d"] ["value"] (defScope s_is_fraction) := ⟨rfl, rfl, rfl, by decide +kernel, rfl, by decide +kernel, by decide +kernel⟩
theorem st_is_fraction {x0 : V} : L2.start ["value", "n", "d"] [x0] = [some x0, none, none] := rfl

def sp_isFrac (K : Fg) : Sp := fun vs H Q _ => ∃ (M : Ms) (v : V) (o : Ob), vs = [v] ∧ rOb K M H v o ∧ Q (.bl o.isFr) H
theorem c_isFrac {K : Fg} {M : Ms} {H : Hp} {Q : VK} {E : XK} {v : V} {o : Ob} (h : rOb K M H v o) (q : Q (.bl o.isFr) H) : sp_isFrac K ([v] ++ []) H Q E := ⟨M, v, o, rfl, h, q⟩
local macro_rules | `(tactic| walk_at "my_call") => `(tactic| ((with_reducible apply c_isFrac); (case h => walk_at "my_tr")))
section
variable {P : Program} {w : World} {K : PySem.W.Frag} {mg : Str → Option Value} {base : Heap}
theorem ok_is_fraction {f : Addr} {fd : FuncData} (F : Fun K "is_fraction" "is_fraction" s_is_fraction f fd) (G_is_whole : Cal P w K mg base CX0 1 "is_whole" ["value"] [] (sp_whole K)) (z_isinstance : mg "isinstance" = none) (z_len : mg "len" = none) (z_tuple : mg "tuple" = none) (m_gcd : mg "gcd" = some (.builtin "math.gcd")) : FnOk P w K mg base CX0 2 f fd ["value"] (sp_isFrac K) := by
  refine F.ok (k := 1) sc_is_fraction (fun vs H Q E h => ?_) (fun cdv A outer s H vs Q E hr h => ?_)
  · obtain ⟨M, v, o, rfl, hv, q⟩ := h; rfl
  · obtain ⟨M, v, o, rfl, hv, q⟩ := h
    refine ⟨_, (pss_cons (ps_if (PW.pt (pw_or (pt_not (pt_val (pe_callB call_isi (by rfl) z_isinstance (by decide +kernel) (pa_cons (pv 0) (pa_cons (pe_bltn (v := .ty "tuple") (by rfl) z_tuple (by decide +kernel) rfl) pa_nil))))) (pw_or1 (pt_cmpR (opNe hr.units) (pe_callB callLen (by rfl) z_len (by decide +kernel) (pa_cons (pv 0) pa_nil)) pe_int (nomark _))))) (pss_one (ps_ret pe_bl)) pss_nil)
      (pss_cons (ps_asg (pv 0) (pg_tup rfl (pgs_cons (pg_name (i := 1) sc_is_fraction.nd rfl (by first | exact Or.inl rfl | exact Or.inr rfl)) (pgs_cons (pg_name (i := 2) sc_is_fraction.nd rfl (by first | exact Or.inl rfl | exact Or.inr rfl)) pgs_nil))))
      (pss_one (ps_ret (pe_and (pe_cal G_is_whole (hr.mono (by decide)) (by rfl) pass0 (pa_cons (pv 1) pa_nil)) (pe_and (pe_cal G_is_whole (hr.mono (by decide)) (by rfl) pass0 (pa_cons (pv 2) pa_nil)) (pe_and (pe_cmpR op_ge (pv 2) pe_int (nomark _)) (pe_one (pe_cmpR (opEq hr.units) (pe_callBfun cr_gcd (by rfl) m_gcd (pa_cons (pv 1) (pa_cons (pv 2) pa_nil))) pe_int (nomark _)))))))))), ?_⟩
    rw [st_is_fraction]
    try simp only [cxK, cxK2]

    walk_at "my_go"
    cases ht : o.isTup with
    | false =>
      walk_at "my_go"
      rw [show o.isFr = false by cases o <;> simp_all [Ob.isFr, Ob.isTup]] at q
      exact q
    | true =>
      obtain ⟨xs, rfl⟩ : ∃ xs, o = .tup xs := by cases o <;> simp_all [Ob.isTup]
      walk_at "my_go"
      walk_at "my_sp"
      · rename_i hl
        walk_at "my_go"
        rw [isFr_no (by omega)] at q
        exact q
      · rename_i hl
        obtain ⟨a, b, rfl⟩ : ∃ a b, xs = [a, b] := by
          match xs, hl with
          | [a, b], _ => exact ⟨a, b, rfl⟩
          | [], hl => simp at hl
          | [_], hl => simp at hl
          | _ :: _ :: _ :: _, hl => simp at hl; omega
        obtain ⟨p, vs, rfl, tp, pr⟩ := OA.tup_inv hv
        obtain ⟨x, y, rfl, hx, hy⟩ : ∃ x y, vs = [x, y] ∧ rOb K M H x a ∧ rOb K M H y b := by
          cases pr with
          | cons r t =>
            cases t with
            | cons r2 t2 => cases t2; exact ⟨_, _, rfl, r, r2⟩
        rw [isFr_two] at q
        walk_at "my_go"
        refine s_gtup tp.sq rfl ?_
        walk_at "my_go"
        cases ha : a.isInt with
        | false =>
          rw [ha] at q
          walk_at "my_go"
          exact q
        | true =>
          obtain ⟨n, rfl⟩ := isInt_inv ha
          cases hx
          rw [ha] at q
          walk_at "my_go"
          cases hb : b.isInt with
          | false =>
            rw [hb] at q
            walk_at "my_go"
            exact q
          | true =>
            obtain ⟨d, rfl⟩ := isInt_inv hb
            cases hy
            rw [hb] at q
            walk_at "my_go"
            walk_at "my_sp"
            · rename_i h1
              walk_at "my_go"
              rw [show decide (((Nat.gcd n.natAbs d.natAbs : Nat) : Int) = 1) = decide (Nat.gcd n.natAbs d.natAbs = 1) from decide_eq_decide.mpr (by omega)]
              simpa [h1] using q
            · rename_i h1
              simpa [h1] using q
end
abbrev s_new_fraction : Stmt := topS 4
theorem sc_new_fraction : FnScope ["n", "d", "common"] ["n", "d"] (defScope s_new_fraction) := ⟨rfl, rfl, rfl, by decide +kernel, rfl, by decide +kernel, by decide +kernel⟩
theorem st_new_fraction {x0 x1 : V} : L2.start ["n", "d", "common"] [x0, x1] = [some x0, some x1, none] := rfl

section
variable {P : Program} {w : World} {K : PySem.W.Frag} {mg : Str → Option Value} {base : Heap}
theorem ok_new_fraction {f : Addr} {fd : FuncData} (F : FunD K "new_fraction" "new_fraction" (defArgs s_new_fraction) (defBody s_new_fraction) (defScope s_new_fraction) [.int 1] [] f fd) (m_gcd : mg "gcd" = some (.builtin "math.gcd")) : FnOk P w K mg base CX0 1 f fd ["n", "d"] (sp_div K) := by
  refine F.ok (k := 0) sc_new_fraction (fun vs H Q E h => ?_) (fun cdv A outer s H vs Q E hr h => ?_)
  · obtain ⟨M, n, d, k, rfl, hd, hb, hk, ow, q⟩ := h; rfl
  · obtain ⟨M, n, d, k, rfl, hd, hb, hk, ow, q⟩ := h
    refine ⟨_, (pss_cons (ps_set (i := 2) sc_new_fraction.nd rfl (by first | exact Or.inl rfl | exact Or.inr rfl) (pe_callBfun cr_gcd (by rfl) m_gcd (pa_cons (pv 0) (pa_cons (pv 1) pa_nil))))
      (pss_cons (ps_if (pt_cmpR op_lt (pv 1) pe_int (nomark _)) (pss_one (ps_set (i := 2) sc_new_fraction.nd rfl (by first | exact Or.inl rfl | exact Or.inr rfl) (pe_un un_neg (pv 2)))) pss_nil)
      (pss_one (ps_ret (pe_tup (pa_cons (pe_op opDiv (pv 0) (pv 2)) (pa_cons (pe_op opDiv (pv 1) (pv 2)) pa_nil))))))), ?_⟩
    rw [st_new_fraction]
    try simp only [cxK, cxK2]

    have gp := gcd_pos_of (n := n) hd
    have g0 : ((Nat.gcd n.natAbs d.natAbs : Nat) : Int) ≠ 0 := by omega
    have gb : Bd k ((Nat.gcd n.natAbs d.natAbs : Nat) : Int) := hb.of_le (by
      have := Nat.le_of_dvd (by omega) (Nat.gcd_dvd_right n.natAbs d.natAbs)
      omega)
    have L := low_terms (n := n) hd rfl
    walk_at "my_go"
    walk_at "my_sp"
    · walk_at "my_go"
      refine s_newFr ow ?_ ?_ q
      · rw [fdiv_neg_dvd (gcd_dvd_l n d)]; exact (L.2 (by assumption)).1
      · rw [fdiv_neg_dvd (gcd_dvd_r n d)]; exact (L.2 (by assumption)).2
    · walk_at "my_go"
      refine s_newFr ow ?_ ?_ q
      · rw [fdiv_dvd (gcd_dvd_l n d)]; exact (L.1 (by omega)).1
      · rw [fdiv_dvd (gcd_dvd_r n d)]; exact (L.1 (by omega)).2
end
abbrev s_law : Stmt := topS 20
theorem sc_law : FnScope ["script", "draw", "turn", "n", "d", "found", "more", "thing", "told"] ["script"] (defScope s_law) := ⟨rfl, rfl, rfl, by decide +kernel, rfl, by decide +kernel, by decide +kernel⟩
theorem st_law {x0 : V} : L2.start ["script", "draw", "turn", "n", "d", "found", "more", "thing", "told"] [x0] = [some x0, none, none, none, none, none, none, none, none] := rfl

def sp_law (K : Fg) : Sp := fun vs H Q _ => ∃ (a : Addr) (ns : List Int), vs = [.ref a] ∧ SqL K H a (ns.map V.int) ∧ ns.length ≤ 63 ∧ ∀ H', Q (.bl true) H'
theorem c_div1 {K : Fg} {M : Ms} {H : Hp} {Q : VK} {E : XK} {n : Int} (ow : Own M H) (h : ∀ v H', Same H H' → rFr K M H' v ((n : Rat) / ((1 : Int) : Rat)) → Q v H') :
    sp_div K ([.int n] ++ [.int 1]) H Q E := ⟨M, n, 1, 64, rfl, by decide, by unfold Bd; decide, by decide, ow, h⟩
theorem rat_one (n : Int) : ((n : Rat) / ((1 : Int) : Rat)).num = n ∧ ((((n : Rat) / ((1 : Int) : Rat)).den : Nat) : Int) = 1 := (fr_low (n := n) (d := 1) (by decide)).mpr (by simp)
theorem cross_eq (n d : Int) (hd : d ≠ 0) : ((n : Rat) / (d : Rat)).num * d = n * (((n : Rat) / (d : Rat)).den : Int) := by
  have L := low_terms (n := n) hd rfl
  obtain ⟨a, ha⟩ := gcd_dvd_l n d
  obtain ⟨b, hb⟩ := gcd_dvd_r n d
  generalize hg : ((Nat.gcd n.natAbs d.natAbs : Nat) : Int) = g at *
  have g0 : g ≠ 0 := by rintro rfl; simp at hb; exact hd hb
  have e1 : n / g = a := by rw [ha]; exact Int.mul_ediv_cancel_left _ g0
  have e2 : d / g = b := by rw [hb]; exact Int.mul_ediv_cancel_left _ g0
  rcases Int.lt_trichotomy d 0 with z | z | z
  · rw [(L.2 z).1, (L.2 z).2, e1, e2]; grind
  · exact absurd z hd
  · rw [(L.1 z).1, (L.1 z).2, e1, e2]; grind
local macro_rules | `(tactic| walk_at "my_call") => `(tactic| ((with_reducible apply c_div1); (case ow => walk_at "my_tr"); intro _ _ _ _))
local macro_rules | `(tactic| walk_at "my_call") => `(tactic| ((with_reducible apply c_lawFrac); (case h => walk_at "my_tr"); (case hb => assumption); (case ow => walk_at "my_tr"); intro _ _))
section
variable {P : Program} {w : World} {K : PySem.W.Frag} {mg : Str → Option Value} {base : Heap}
theorem ok_law {f : Addr} {fd : FuncData} (F : Fun K "law" "law" s_law f fd) (G__law_begin : Cal P w K mg base CX0 1 "_law_begin" ["script"] [] (sp_begin K)) (G__law_is_fraction : Cal P w K mg base CX0 2 "_law_is_fraction" ["thing"] [] (sp_lawFrac K)) (G__law_number : Cal P w K mg base CX0 3 "_law_number" ["draw"] [] (sp_number K)) (G__law_odd : Cal P w K mg base CX0 3 "_law_odd" ["draw", "n", "d"] [] (sp_odd K)) (G_is_fraction : Cal P w K mg base CX0 2 "is_fraction" ["value"] [] (sp_isFrac K)) (G_new_fraction_1 : Cal P w K mg base CX0 1 "new_fraction" ["n", "d"] [.int 1] (sp_div K)) (G_new_fraction : Cal P w K mg base CX0 1 "new_fraction" ["n", "d"] [] (sp_div K)) (z_bool : mg "bool" = none) (z_isinstance : mg "isinstance" = none) (z_len : mg "len" = none) (z_min : mg "min" = none) (z_range : mg "range" = none) : FnOk P w K mg base CX0 4 f fd ["script"] (sp_law K) := by
  refine F.ok (k := 3) sc_law (fun vs H Q E h => ?_) (fun cdv A outer s H vs Q E hr h => ?_)
  · obtain ⟨a, ns, rfl, hs, hl, q⟩ := h; rfl
  · obtain ⟨a, ns, rfl, hs, hl, q⟩ := h
    refine ⟨_, (pss_cons (ps_set (i := 1) sc_law.nd rfl (by first | exact Or.inl rfl | exact Or.inr rfl) (pe_cal G__law_begin (hr.mono (by decide)) (by rfl) pass0 (pa_cons (pv 0) pa_nil)))
      (pss_cons (ps_for PassesOwn.never rfl (pi_range1 (by rfl) z_range (pa_cons (pe_op opAdd pe_int (pe_callB (callMin rfl) (by rfl) z_min (by decide +kernel) (pa_cons (pe_callB callLen (by rfl) z_len (by decide +kernel) (pa_cons (pv 0) pa_nil)) (pa_cons pe_int pa_nil)))) pa_nil)) (pg_name (i := 2) sc_law.nd rfl (by first | exact Or.inl rfl | exact Or.inr rfl)) (pss_cons (ps_par (i := 3) (j := 4) rfl sc_law.nd rfl rfl (by decide) rfl rfl (pa_cons (pe_cal G__law_number (hr.mono (by decide)) (by rfl) pass0 (pa_cons (pv 1) pa_nil)) (pa_cons (pe_cal G__law_number (hr.mono (by decide)) (by rfl) pass0 (pa_cons (pv 1) pa_nil)) pa_nil)) (by rfl))
      (pss_cons (ps_if (pt_cmpR (opNe hr.units) (pv 4) pe_int (nomark _)) (pss_cons (ps_set (i := 5) sc_law.nd rfl (by first | exact Or.inl rfl | exact Or.inr rfl) (pe_cal G_new_fraction (hr.mono (by decide)) (by rfl) pass0 (pa_cons (pv 3) (pa_cons (pv 4) pa_nil))))
      (pss_one (ps_if (PW.pt (pw_or (pt_not (pt_val (pe_cal G__law_is_fraction (hr.mono (by decide)) (by rfl) pass0 (pa_cons (pv 5) pa_nil)))) (pw_or (pt_cmpR (opNe hr.units) (pe_op opMul (pe_ix ix_seq (pv 5) pe_int (fun _ _ => rfl)) (pv 4)) (pe_op opMul (pv 3) (pe_ix ix_seq (pv 5) pe_int (fun _ _ => rfl))) (nomark _)) (pw_or1 (pt_cmpR opIsNotBl (pe_cal G_is_fraction (hr.mono (by decide)) (by rfl) pass0 (pa_cons (pv 5) pa_nil)) pe_bl (nomark _)))))) (pss_one (ps_ret pe_bl)) pss_nil))) pss_nil)
      (pss_cons (ps_if (PW.pt (pw_or (pt_cmpR (opNe hr.units) (pe_cal G_new_fraction_1 (hr.mono (by decide)) (by rfl) pass0 (pa_cons (pv 3) pa_nil)) (pe_tup (pa_cons (pv 3) (pa_cons pe_int pa_nil))) (nomark _)) (pw_or1 (pt_not (pt_val (pe_cal G__law_is_fraction (hr.mono (by decide)) (by rfl) pass0 (pa_cons (pe_cal G_new_fraction_1 (hr.mono (by decide)) (by rfl) pass0 (pa_cons (pv 3) pa_nil)) pa_nil))))))) (pss_one (ps_ret pe_bl)) pss_nil)
      (pss_one (ps_for PassesOwn.never rfl (pi_range1 (by rfl) z_range (pa_cons pe_int pa_nil)) (pg_name (i := 6) sc_law.nd rfl (by first | exact Or.inl rfl | exact Or.inr rfl)) (pss_cons (ps_set (i := 7) sc_law.nd rfl (by first | exact Or.inl rfl | exact Or.inr rfl) (pe_cal G__law_odd (hr.mono (by decide)) (by rfl) pass0 (pa_cons (pv 1) (pa_cons (pv 3) (pa_cons (pv 4) pa_nil)))))
      (pss_cons (ps_set (i := 8) sc_law.nd rfl (by first | exact Or.inl rfl | exact Or.inr rfl) (pe_cal G_is_fraction (hr.mono (by decide)) (by rfl) pass0 (pa_cons (pv 7) pa_nil)))
      (pss_one (ps_if (PW.pt (pw_or (pt_not (pt_val (pe_callB call_isi (by rfl) z_isinstance (by decide +kernel) (pa_cons (pv 8) (pa_cons (pe_bltn (v := .ty "bool") (by rfl) z_bool (by decide +kernel) rfl) pa_nil))))) (pw_or1 (pt_cmpR (opNe hr.units) (pv 8) (pe_cal G__law_is_fraction (hr.mono (by decide)) (by rfl) pass0 (pa_cons (pv 7) pa_nil)) (nomark _))))) (pss_one (ps_ret pe_bl)) pss_nil))))))))))
      (pss_one (ps_ret pe_bl)))), ?_⟩
    rw [st_law]
    try simp only [cxK, cxK2]

    have rs : rL rInt K (fun _ => False) H (.ref a) ns := ⟨a, _, rfl, hs.elim (fun z => .inl ⟨fun z => z, z⟩) .inr, prd_ints ns⟩
    walk_at "my_go"
    refine c_begin hs hl ?_
    intro d l H1 s1 fd fl D1
    walk_at "my_go"
    refine s_rng ?_ ?_
    · omega
    refine forR_by (fun i σ H2 => DrawAt H2 d l (13 * i) ∧ ∃ o1 o2 o3 o4 o5 o6 o7, σ = [some (.ref a), some (.ref d), o1, o2, o3, o4, o5, o6, o7]) ⟨D1, _, _, _, _, _, _, _, rfl⟩ ?_ ?_
    · rintro i σ H2 N hi ⟨D2, o1, o2, o3, o4, o5, o6, o7, rfl⟩ hk
      have ow2 := D2.own
      walk_at "my_go1"
      refine s_cut (fun σ' H' => ∃ n e : Int, Bd 64 n ∧ Bd 64 e ∧ DrawAt H' d l (13 * i + 10) ∧ σ' = [some (.ref a), some (.ref d), some (.int i), some (.int n), some (.int e), o4, o5, o6, o7]) ?_ ?_
      · rintro σ H3 ⟨n, e, bn, be, D3, rfl⟩
        have ow3 := D3.own
        refine s_cut (fun σ' H' => DrawAt H' d l (13 * i + 10) ∧ ∃ o4, σ' = [some (.ref a), some (.ref d), some (.int i), some (.int n), some (.int e), o4, o5, o6, o7]) ?_ ?_
        · rintro σ H4 ⟨D4, o4, rfl⟩
          have ow4 := D4.own
          walk_at "my_go"
          rename_i v1 H5 s5 r5
          refine s_newT (K := K) (M := mDraw d l) (by walk_at "my_tr") ?_
          intro p1 H6 s6 w6 t6
          have e1 := rat_one n
          refine s_neD (A := rT2 rInt rInt) (Rp.same s6 (fr_t2 r5)) (tup_t2 t6) ?_
          rw [show decide ((((n : Rat) / ((1 : Int) : Rat)).num, ((((n : Rat) / ((1 : Int) : Rat)).den : Nat) : Int)) = (n, 1)) = true from decide_eq_true (by rw [e1.1, e1.2])]
          walk_at "my_go"
          rename_i v2 H7 s7 r7
          have r7' := fr_ob r7
          have hb7 : ∀ m k, Ob.tup [.int ((n : Rat) / ((1 : Int) : Rat)).num, .int ((((n : Rat) / ((1 : Int) : Rat)).den : Nat) : Int)] = .tup [.int m, .int k] → Bd 200 k := by
            rw [e1.1, e1.2]
            rintro m k h
            simp at h
            rw [← h.2]
            unfold Bd; decide
          walk_at "my_go"
          rw [isFr_rat]
          walk_at "my_go"
          refine s_rng ?_ ?_
          · omega
          refine forR_by (fun j σ H2 => DrawAt H2 d l (13 * i + 10 + j) ∧ ∃ o4 o5 o6 o7, σ = [some (.ref a), some (.ref d), some (.int i), some (.int n), some (.int e), o4, o5, o6, o7]) ⟨by walk_at "my_tr", _, _, _, _, rfl⟩ ?_ ?_
          · rintro j σ H8 N2 hj ⟨D8, o4, o5, o6, o7, rfl⟩ hk2
            have ow8 := D8.own
            walk_at "my_go"
            refine c_odd (M := mDraw d l) D8 (.inl rfl) (.inr rfl) ow8 (by omega) bn be ?_
            intro v o H9 b9 D9 r9 hb9
            have ow9 := D9.own
            walk_at "my_go"
            exact hk2 _ _ ⟨by walk_at "my_tr", _, _, _, _, rfl⟩
          · rintro σ H8 ⟨D8, o4, o5, o6, o7, rfl⟩
            exact hk _ _ ⟨D8.le (by omega), _, _, _, _, _, _, _, rfl⟩
        · intro Nx hx
          walk_at "my_go"
          walk_at "my_sp"
          · rename_i he
            walk_at "my_go"
            rename_i v1 H5 s5 r5
            have r5' := fr_ob r5
            have bq := BQ.of_parts he bn be
            have hb5 : ∀ m k, Ob.tup [.int ((n : Rat) / (e : Rat)).num, .int ((((n : Rat) / (e : Rat)).den : Nat) : Int)] = .tup [.int m, .int k] → Bd 200 k := by
              rintro m k h
              simp at h
              rw [← h.2]
              exact bq.2.mono (by omega)
            walk_at "my_go"
            rw [isFr_rat]
            walk_at "my_go"
            rw [show decide (((n : Rat) / (e : Rat)).num * e = n * (((n : Rat) / (e : Rat)).den : Int)) = true from decide_eq_true (cross_eq n e he)]
            walk_at "my_go"
            rw [isFr_rat]
            walk_at "my_go"
            refine s_isNB ?_
            walk_at "my_go"
            exact hx _ _ ⟨by walk_at "my_tr", _, rfl⟩
          · walk_at "my_go"
            exact hx _ _ ⟨D3, _, rfl⟩
      · intro Nx hx
        walk_at "my_go"
        exact hx _ _ ⟨_, _, by assumption, by assumption, by walk_at "my_tr", rfl⟩
    · rintro σ H2 ⟨D2, o1, o2, o3, o4, o5, o6, o7, rfl⟩
      walk_at "my_go"
      exact q _
end
theorem all_mk {P : Program} {w : World} {K : PySem.W.Frag} {h : Heap} {mg : Str → Option Value} {fa : Addr} (X : K.In h) (G : h.Ns mainGlobals mg) (hfa : mg "law" = some (.ref fa))
    {T11 f1 f10 f11 f12 f2 f3 f4 f5 f6 f7 f8 f9 : Addr}
    {an1 an10 an11 an12 an2 an3 an4 an5 an6 an7 an8 an9 dT11 od1 od10 od11 od12 od2 od3 od4 od5 od6 od7 od8 od9 : Option Addr}
    {cd1 cd10 cd11 cd12 cd2 cd3 cd4 cd5 cd6 cd7 cd8 cd9 ct1 ct10 ct11 ct12 ct2 ct3 ct4 ct5 ct6 ct7 ct8 ct9 dc1 dc10 dc11 dc12 dc2 dc3 dc4 dc5 dc6 dc7 dc8 dc9 kV1 kV10 kV11 kV12 kV2 kV3 kV4 kV5 kV6 kV7 kV8 kV9 oT11 oc1 oc10 oc11 oc12 oc2 oc3 oc4 oc5 oc6 oc7 oc8 oc9 pm1 pm10 pm11 pm12 pm2 pm3 pm4 pm5 pm6 pm7 pm8 pm9 : Value}
    {nT11 : Nat}
    {sT11 sl1 sl10 sl11 sl12 sl2 sl3 sl4 sl5 sl6 sl7 sl8 sl9 : Array (Option Value)}
    {tk11_0 : Tok}
    (a1 : PySem.W.nsIn K mainGlobals "_law_begin" = some (some (.ref f1)))
    (l1 : K.lookup f1 = some ⟨oc1, od1, .func (PySem.W.fnOf "_law_begin" "_law_begin" (defArgs s__law_begin) (defBody s__law_begin) (defScope s__law_begin) .none kV1 dc1 pm1 an1 cd1 ct1), sl1⟩)
    (c1 : PySem.W.codeIn K cd1 "_law_begin" = true)
    (k1 : PySem.W.keepIn K (.ref f1) = true)
    (a2 : PySem.W.nsIn K mainGlobals "_law_f" = some (some (.ref f2)))
    (l2 : K.lookup f2 = some ⟨oc2, od2, .func (PySem.W.fnOf "_law_f" "_law_f" (defArgs s__law_f) (defBody s__law_f) (defScope s__law_f) .none kV2 dc2 pm2 an2 cd2 ct2), sl2⟩)
    (c2 : PySem.W.codeIn K cd2 "_law_f" = true)
    (k2 : PySem.W.keepIn K (.ref f2) = true)
    (a3 : PySem.W.nsIn K mainGlobals "_law_is_whole" = some (some (.ref f3)))
    (l3 : K.lookup f3 = some ⟨oc3, od3, .func (PySem.W.fnOf "_law_is_whole" "_law_is_whole" (defArgs s__law_is_whole) (defBody s__law_is_whole) (defScope s__law_is_whole) .none kV3 dc3 pm3 an3 cd3 ct3), sl3⟩)
    (c3 : PySem.W.codeIn K cd3 "_law_is_whole" = true)
    (k3 : PySem.W.keepIn K (.ref f3) = true)
    (a4 : PySem.W.nsIn K mainGlobals "_law_is_fraction" = some (some (.ref f4)))
    (l4 : K.lookup f4 = some ⟨oc4, od4, .func (PySem.W.fnOf "_law_is_fraction" "_law_is_fraction" (defArgs s__law_is_fraction) (defBody s__law_is_fraction) (defScope s__law_is_fraction) .none kV4 dc4 pm4 an4 cd4 ct4), sl4⟩)
    (c4 : PySem.W.codeIn K cd4 "_law_is_fraction" = true)
    (k4 : PySem.W.keepIn K (.ref f4) = true)
    (a5 : PySem.W.nsIn K mainGlobals "_law_take" = some (some (.ref f5)))
    (l5 : K.lookup f5 = some ⟨oc5, od5, .func (PySem.W.fnOf "_law_take" "_law_take" (defArgs s__law_take) (defBody s__law_take) (defScope s__law_take) .none kV5 dc5 pm5 an5 cd5 ct5), sl5⟩)
    (c5 : PySem.W.codeIn K cd5 "_law_take" = true)
    (k5 : PySem.W.keepIn K (.ref f5) = true)
    (a6 : PySem.W.nsIn K mainGlobals "_law_pick" = some (some (.ref f6)))
    (l6 : K.lookup f6 = some ⟨oc6, od6, .func (PySem.W.fnOf "_law_pick" "_law_pick" (defArgs s__law_pick) (defBody s__law_pick) (defScope s__law_pick) .none kV6 dc6 pm6 an6 cd6 ct6), sl6⟩)
    (c6 : PySem.W.codeIn K cd6 "_law_pick" = true)
    (k6 : PySem.W.keepIn K (.ref f6) = true)
    (a7 : PySem.W.nsIn K mainGlobals "_law_number" = some (some (.ref f7)))
    (l7 : K.lookup f7 = some ⟨oc7, od7, .func (PySem.W.fnOf "_law_number" "_law_number" (defArgs s__law_number) (defBody s__law_number) (defScope s__law_number) .none kV7 dc7 pm7 an7 cd7 ct7), sl7⟩)
    (c7 : PySem.W.codeIn K cd7 "_law_number" = true)
    (k7 : PySem.W.keepIn K (.ref f7) = true)
    (a8 : PySem.W.nsIn K mainGlobals "_law_odd" = some (some (.ref f8)))
    (l8 : K.lookup f8 = some ⟨oc8, od8, .func (PySem.W.fnOf "_law_odd" "_law_odd" (defArgs s__law_odd) (defBody s__law_odd) (defScope s__law_odd) .none kV8 dc8 pm8 an8 cd8 ct8), sl8⟩)
    (c8 : PySem.W.codeIn K cd8 "_law_odd" = true)
    (k8 : PySem.W.keepIn K (.ref f8) = true)
    (a9 : PySem.W.nsIn K mainGlobals "is_whole" = some (some (.ref f9)))
    (l9 : K.lookup f9 = some ⟨oc9, od9, .func (PySem.W.fnOf "is_whole" "is_whole" (defArgs s_is_whole) (defBody s_is_whole) (defScope s_is_whole) .none kV9 dc9 pm9 an9 cd9 ct9), sl9⟩)
    (c9 : PySem.W.codeIn K cd9 "is_whole" = true)
    (k9 : PySem.W.keepIn K (.ref f9) = true)
    (a10 : PySem.W.nsIn K mainGlobals "is_fraction" = some (some (.ref f10)))
    (l10 : K.lookup f10 = some ⟨oc10, od10, .func (PySem.W.fnOf "is_fraction" "is_fraction" (defArgs s_is_fraction) (defBody s_is_fraction) (defScope s_is_fraction) .none kV10 dc10 pm10 an10 cd10 ct10), sl10⟩)
    (c10 : PySem.W.codeIn K cd10 "is_fraction" = true)
    (k10 : PySem.W.keepIn K (.ref f10) = true)
    (a11 : PySem.W.nsIn K mainGlobals "new_fraction" = some (some (.ref f11)))
    (l11 : K.lookup f11 = some ⟨oc11, od11, .func (PySem.W.fnOf "new_fraction" "new_fraction" (defArgs s_new_fraction) (defBody s_new_fraction) (defScope s_new_fraction) (.ref T11) kV11 dc11 pm11 an11 cd11 ct11), sl11⟩)
    (c11 : PySem.W.codeIn K cd11 "new_fraction" = true)
    (k11 : PySem.W.keepIn K (.ref f11) = true)
    (lT11 : K.lookup T11 = some ⟨oT11, dT11, .seq #[.int 1 tk11_0] nT11, sT11⟩)
    (a12 : PySem.W.nsIn K mainGlobals "law" = some (some (.ref f12)))
    (l12 : K.lookup f12 = some ⟨oc12, od12, .func (PySem.W.fnOf "law" "law" (defArgs s_law) (defBody s_law) (defScope s_law) .none kV12 dc12 pm12 an12 cd12 ct12), sl12⟩)
    (c12 : PySem.W.codeIn K cd12 "law" = true)
    (k12 : PySem.W.keepIn K (.ref f12) = true)
    (zz_abs : PySem.W.nsIn K mainGlobals "abs" = some none)
    (zz_bool : PySem.W.nsIn K mainGlobals "bool" = some none)
    (zz_int : PySem.W.nsIn K mainGlobals "int" = some none)
    (zz_isinstance : PySem.W.nsIn K mainGlobals "isinstance" = some none)
    (zz_len : PySem.W.nsIn K mainGlobals "len" = some none)
    (zz_min : PySem.W.nsIn K mainGlobals "min" = some none)
    (zz_range : PySem.W.nsIn K mainGlobals "range" = some none)
    (zz_tuple : PySem.W.nsIn K mainGlobals "tuple" = some none)
    (mm_gcd : PySem.W.nsIn K mainGlobals "gcd" = some (some (.builtin "math.gcd"))) :
    ∃ fd : FuncData, (∀ (s : Shared) (v : Value), BindsTo s fd ⟨[v], []⟩ [("script", v)]) ∧ ∀ base : Heap, K.In base → base.Ns mainGlobals mg → FnOk P w K mg base CX0 4 fa fd ["script"] (sp_law K) := by
  have e := hfa.symm.trans (PySem.W.mg_of X G a12)
  cases e
  have z_abs := PySem.W.mg_none_of X G zz_abs
  have z_bool := PySem.W.mg_none_of X G zz_bool
  have z_int := PySem.W.mg_none_of X G zz_int
  have z_isinstance := PySem.W.mg_none_of X G zz_isinstance
  have z_len := PySem.W.mg_none_of X G zz_len
  have z_min := PySem.W.mg_none_of X G zz_min
  have z_range := PySem.W.mg_none_of X G zz_range
  have z_tuple := PySem.W.mg_none_of X G zz_tuple
  have m_gcd := PySem.W.mg_of X G mm_gcd
  have F1 := fun_mk (st := s__law_begin) l1 c1 k1
  have b1 := F1.binds (ps := ["script"]) fun _ _ _ _ _ _ us hl => match us, hl with | [_], _ => rfl
  have F2 := fun_mk (st := s__law_f) l2 c2 k2
  have b2 := F2.binds (ps := ["n", "d"]) fun _ _ _ _ _ _ us hl => match us, hl with | [_, _], _ => rfl
  have F3 := fun_mk (st := s__law_is_whole) l3 c3 k3
  have b3 := F3.binds (ps := ["thing"]) fun _ _ _ _ _ _ us hl => match us, hl with | [_], _ => rfl
  have F4 := fun_mk (st := s__law_is_fraction) l4 c4 k4
  have b4 := F4.binds (ps := ["thing"]) fun _ _ _ _ _ _ us hl => match us, hl with | [_], _ => rfl
  have F5 := fun_mk (st := s__law_take) l5 c5 k5
  have b5 := F5.binds (ps := ["draw", "size"]) fun _ _ _ _ _ _ us hl => match us, hl with | [_, _], _ => rfl
  have F6 := fun_mk (st := s__law_pick) l6 c6 k6
  have b6 := F6.binds (ps := ["draw", "some"]) fun _ _ _ _ _ _ us hl => match us, hl with | [_, _], _ => rfl
  have F7 := fun_mk (st := s__law_number) l7 c7 k7
  have b7 := F7.binds (ps := ["draw"]) fun _ _ _ _ _ _ us hl => match us, hl with | [_], _ => rfl
  have F8 := fun_mk (st := s__law_odd) l8 c8 k8
  have b8 := F8.binds (ps := ["draw", "n", "d"]) fun _ _ _ _ _ _ us hl => match us, hl with | [_, _, _], _ => rfl
  have F9 := fun_mk (st := s_is_whole) l9 c9 k9
  have b9 := F9.binds (ps := ["value"]) fun _ _ _ _ _ _ us hl => match us, hl with | [_], _ => rfl
  have F10 := fun_mk (st := s_is_fraction) l10 c10 k10
  have b10 := F10.binds (ps := ["value"]) fun _ _ _ _ _ _ us hl => match us, hl with | [_], _ => rfl
  have F11 : FunD K "new_fraction" "new_fraction" (defArgs s_new_fraction) (defBody s_new_fraction) (defScope s_new_fraction) [.int 1] [] f11 (PySem.W.fnOf "new_fraction" "new_fraction" (defArgs s_new_fraction) (defBody s_new_fraction) (defScope s_new_fraction) (.ref T11) kV11 dc11 pm11 an11 cd11 ct11) := ⟨⟨_, _, _, _, _, _, _, _, _, _, rfl, l11, c11, .inr ⟨by simp, T11, _, [.int 1 tk11_0], nT11, rfl, lT11, rfl, (.cons ⟨tk11_0, rfl⟩ .nil)⟩, .inl rfl⟩, k11⟩
  obtain ⟨ds11_0, vl11_0, b11_0⟩ := F11.binds1 (ps := ["n", "d"]) 2 1 (by simp) rfl fun T kV doc pm an cdv ct us its h1 h2 => match us, its, h1, h2 with | [_, _], [_], _, _ => ⟨_, rfl, rfl⟩
  obtain ⟨ds11_1, vl11_1, b11_1⟩ := F11.binds1 (ps := ["n", "d"]) 1 0 (by simp) rfl fun T kV doc pm an cdv ct us its h1 h2 => match us, its, h1, h2 with | [_], [_], _, _ => ⟨_, rfl, rfl⟩
  have F12 := fun_mk (st := s_law) l12 c12 k12
  have b12 := F12.binds (ps := ["script"]) fun _ _ _ _ _ _ us hl => match us, hl with | [_], _ => rfl
  have O1 : ∀ base : Heap, FnOk P w K mg base CX0 1 f1 _ ["script"] (sp_begin K) := fun base => ok__law_begin F1 z_abs
  have G__law_begin : ∀ base : Heap, Cal P w K mg base CX0 1 "_law_begin" ["script"] [] (sp_begin K) := fun base => .mk' (O1 base) (PySem.W.mg_of X G a1) k1 b1
  have O2 : ∀ base : Heap, FnOk P w K mg base CX0 1 f2 _ ["n", "d"] (sp_div K) := fun base => ok__law_f F2 z_abs
  have G__law_f : ∀ base : Heap, Cal P w K mg base CX0 1 "_law_f" ["n", "d"] [] (sp_div K) := fun base => .mk' (O2 base) (PySem.W.mg_of X G a2) k2 b2
  have O3 : ∀ base : Heap, FnOk P w K mg base CX0 1 f3 _ ["thing"] (sp_whole K) := fun base => ok__law_is_whole F3 z_bool z_int z_isinstance
  have G__law_is_whole : ∀ base : Heap, Cal P w K mg base CX0 1 "_law_is_whole" ["thing"] [] (sp_whole K) := fun base => .mk' (O3 base) (PySem.W.mg_of X G a3) k3 b3
  have O4 : ∀ base : Heap, FnOk P w K mg base CX0 2 f4 _ ["thing"] (sp_lawFrac K) := fun base => ok__law_is_fraction F4 (G__law_f base) (G__law_is_whole base) z_isinstance z_len z_tuple
  have G__law_is_fraction : ∀ base : Heap, Cal P w K mg base CX0 2 "_law_is_fraction" ["thing"] [] (sp_lawFrac K) := fun base => .mk' (O4 base) (PySem.W.mg_of X G a4) k4 b4
  have O5 : ∀ base : Heap, FnOk P w K mg base CX0 1 f5 _ ["draw", "size"] (sp_take K) := fun base => ok__law_take F5 z_len
  have G__law_take : ∀ base : Heap, Cal P w K mg base CX0 1 "_law_take" ["draw", "size"] [] (sp_take K) := fun base => .mk' (O5 base) (PySem.W.mg_of X G a5) k5 b5
  have O6 : ∀ base : Heap, FnOk P w K mg base CX0 2 f6 _ ["draw", "some"] (sp_pick K) := fun base => ok__law_pick F6 (G__law_take base) z_len
  have G__law_pick : ∀ base : Heap, Cal P w K mg base CX0 2 "_law_pick" ["draw", "some"] [] (sp_pick K) := fun base => .mk' (O6 base) (PySem.W.mg_of X G a6) k6 b6
  have O7 : ∀ base : Heap, FnOk P w K mg base CX0 3 f7 _ ["draw"] (sp_number K) := fun base => ok__law_number F7 (G__law_pick base) (G__law_take base)
  have G__law_number : ∀ base : Heap, Cal P w K mg base CX0 3 "_law_number" ["draw"] [] (sp_number K) := fun base => .mk' (O7 base) (PySem.W.mg_of X G a7) k7 b7
  have O8 : ∀ base : Heap, FnOk P w K mg base CX0 3 f8 _ ["draw", "n", "d"] (sp_odd K) := fun base => ok__law_odd F8 (G__law_f base) (G__law_pick base) z_abs
  have G__law_odd : ∀ base : Heap, Cal P w K mg base CX0 3 "_law_odd" ["draw", "n", "d"] [] (sp_odd K) := fun base => .mk' (O8 base) (PySem.W.mg_of X G a8) k8 b8
  have O9 : ∀ base : Heap, FnOk P w K mg base CX0 1 f9 _ ["value"] (sp_whole K) := fun base => ok_is_whole F9 z_bool z_int z_isinstance
  have G_is_whole : ∀ base : Heap, Cal P w K mg base CX0 1 "is_whole" ["value"] [] (sp_whole K) := fun base => .mk' (O9 base) (PySem.W.mg_of X G a9) k9 b9
  have O10 : ∀ base : Heap, FnOk P w K mg base CX0 2 f10 _ ["value"] (sp_isFrac K) := fun base => ok_is_fraction F10 (G_is_whole base) z_isinstance z_len z_tuple m_gcd
  have G_is_fraction : ∀ base : Heap, Cal P w K mg base CX0 2 "is_fraction" ["value"] [] (sp_isFrac K) := fun base => .mk' (O10 base) (PySem.W.mg_of X G a10) k10 b10
  have O11 : ∀ base : Heap, FnOk P w K mg base CX0 1 f11 _ ["n", "d"] (sp_div K) := fun base => ok_new_fraction F11 m_gcd
  have G_new_fraction : ∀ base : Heap, Cal P w K mg base CX0 1 "new_fraction" ["n", "d"] [] (sp_div K) := fun base => ⟨f11, _, ds11_0, O11 base, PySem.W.mg_of X G a11, k11, b11_0, vl11_0⟩
  have G_new_fraction_1 : ∀ base : Heap, Cal P w K mg base CX0 1 "new_fraction" ["n", "d"] [.int 1] (sp_div K) := fun base => ⟨f11, _, ds11_1, O11 base, PySem.W.mg_of X G a11, k11, b11_1, vl11_1⟩
  have O12 : ∀ base : Heap, FnOk P w K mg base CX0 4 fa _ ["script"] (sp_law K) := fun base => ok_law F12 (G__law_begin base) (G__law_is_fraction base) (G__law_number base) (G__law_odd base) (G_is_fraction base) (G_new_fraction_1 base) (G_new_fraction base) z_bool z_isinstance z_len z_min z_range
  exact ⟨_, fun s v => .of_eq rfl, fun base _ _ => O12 base⟩
theorem walk {l : PySem.W.OpenLaw} {q : Program} {loose : List Str} {XP : (Str → Option Value) → Heap → Prop} {YP : World → Heap → Prop} {d : DefRec} {K : Params → PySem.W.Frag} (hn : l.most = some 63) (hdf : d.params.defaults = [])
    (hY : ∀ (w : World) (h : Heap), YP w h → (K w.params).In h)
    (F : ∀ (w : World) (mg : Str → Option Value) (fa : Addr) (h : Heap), (K w.params).In h → h.Ns mainGlobals mg → mg d.name = some (.ref fa) →
      ∃ fd : FuncData, (∀ (s : Shared) (u : Value), BindsTo s fd ⟨[u], []⟩ [("script", u)]) ∧ ∀ base : Heap, (K w.params).In base → base.Ns mainGlobals mg → FnOk l.prog w (K w.params) mg base CX0 4 fa fd ["script"] (sp_law (K w.params))) :
    PySem.W.WalkO q loose XP YP l.row.toRowW d [] (fun f vs => PySem.call f vs) :=
  L2.walk_of (n := 63) (k := 4) (x := "script") (CX := fun _ => CX0) (sp := fun w => sp_law (K w.params)) hn (by decide) hdf ⟨rfl, by decide, by decide⟩ hY F (fun _ _ a ns hl _ hS => ⟨a, ns, rfl, hS, hl, fun _ => rfl⟩) fun _ _ _ _ _ z => z
end My
open PySem PySem.W PyProof.Rows
set_option maxRecDepth 100000 in
set_option maxHeartbeats 0 in
theorem PySem.Challenge.cw_handedpast_k01_fractions_made_holds : PySem.Challenge.rw_handedpast_k01_fractions_made.Holds := by
  w_on; o_law; k_head; (case hw => w_witness2)
  k_fill
  refine My.walk (l := PySem.Challenge.rw_handedpast_k01_fractions_made) rfl rfl (fun w h Y => PySem.W.kIn_of Y) ?F
  case F =>
    intro w mg fa h KX G hmg
    refine' My.all_mk KX G hmg ?a1 ?l1 ?c1 ?k1 ?a2 ?l2 ?c2 ?k2 ?a3 ?l3 ?c3 ?k3 ?a4 ?l4 ?c4 ?k4 ?a5 ?l5 ?c5 ?k5 ?a6 ?l6 ?c6 ?k6 ?a7 ?l7 ?c7 ?k7 ?a8 ?l8 ?c8 ?k8 ?a9 ?l9 ?c9 ?k9 ?a10 ?l10 ?c10 ?k10 ?a11 ?l11 ?c11 ?k11 ?lT11 ?a12 ?l12 ?c12 ?k12 ?zz_abs ?zz_bool ?zz_int ?zz_isinstance ?zz_len ?zz_min ?zz_range ?zz_tuple ?mm_gcd
    (case a1 => k_is)
    (case l1 => k_is)
    (case c1 => k_is)
    (case k1 => k_is)
    (case a2 => k_is)
    (case l2 => k_is)
    (case c2 => k_is)
    (case k2 => k_is)
    (case a3 => k_is)
    (case l3 => k_is)
    (case c3 => k_is)
    (case k3 => k_is)
    (case a4 => k_is)
    (case l4 => k_is)
    (case c4 => k_is)
    (case k4 => k_is)
    (case a5 => k_is)
    (case l5 => k_is)
    (case c5 => k_is)
    (case k5 => k_is)
    (case a6 => k_is)
    (case l6 => k_is)
    (case c6 => k_is)
    (case k6 => k_is)
    (case a7 => k_is)
    (case l7 => k_is)
    (case c7 => k_is)
    (case k7 => k_is)
    (case a8 => k_is)
    (case l8 => k_is)
    (case c8 => k_is)
    (case k8 => k_is)
    (case a9 => k_is)
    (case l9 => k_is)
    (case c9 => k_is)
    (case k9 => k_is)
    (case a10 => k_is)
    (case l10 => k_is)
    (case c10 => k_is)
    (case k10 => k_is)
    (case a11 => k_is)
    (case l11 => k_is)
    (case c11 => k_is)
    (case k11 => k_is)
    (case lT11 => k_is)
    (case a12 => k_is)
    (case l12 => k_is)
    (case c12 => k_is)
    (case k12 => k_is)
    (case zz_abs => k_is)
    (case zz_bool => k_is)
    (case zz_int => k_is)
    (case zz_isinstance => k_is)
    (case zz_len => k_is)
    (case zz_min => k_is)
    (case zz_range => k_is)
    (case zz_tuple => k_is)
    (case mm_gcd => k_is)
