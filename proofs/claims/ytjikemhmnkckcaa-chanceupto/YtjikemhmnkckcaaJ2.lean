import Derived.Test.YtjikemhmnkckcaaJ1
/- Plain mathematics of configurations: valid ones, where a slot begins, in which slot an address lies. No program in sight. -/
namespace Go.Proofs.Ytjikemhmnkckcaa
namespace Cf

def gr (cls : List (Int × Int)) (i : Nat) : Int := (cls.getD i (0, 0)).1
def sl (cls : List (Int × Int)) (i : Nat) : Int := (cls.getD i (0, 0)).2

def allTo (p : Nat → Bool) : Nat → Bool
  | 0 => true
  | n + 1 => allTo p n && p n
theorem allTo_iff (p : Nat → Bool) (n : Nat) : allTo p n = true ↔ ∀ i, i < n → p i = true := by
  induction n with
  | zero => simp [allTo]
  | succ n ih =>
    simp only [allTo, Bool.and_eq_true, ih]
    constructor
    · rintro ⟨h1, h2⟩ i hi
      by_cases e : i = n
      · subst e; exact h2
      · exact h1 i (by omega)
    · intro h
      exact ⟨fun i hi => h i (by omega), h n (by omega)⟩
theorem allTo_false (p : Nat → Bool) {n i : Nat} (hi : i < n) (h : p i = false) : allTo p n = false := by
  cases e : allTo p n
  · rfl
  · rw [(allTo_iff p n).1 e i hi] at h; cases h

/-- granuleref's look at class i -/
def entryB (cls : List (Int × Int)) (i : Nat) : Bool :=
  decide (i < 4) && decide (1 ≤ gr cls i) && decide (gr cls i ≤ 8) && decide (1 ≤ sl cls i) && decide (sl cls i ≤ 16) && allTo (fun j => decide (gr cls j < gr cls i)) i
def headB (st rest : Int) : Bool := decide (0 ≤ st) && decide (st ≤ 16) && decide (0 ≤ rest) && decide (rest ≤ 16)
def validB (st rest : Int) (cls : List (Int × Int)) : Bool := headB st rest && (allTo (entryB cls) cls.length && decide (0 < cls.length))

structure Valid (st rest : Int) (cls : List (Int × Int)) : Prop where
  st0 : 0 ≤ st
  st1 : st ≤ 16
  re0 : 0 ≤ rest
  re1 : rest ≤ 16
  n0 : 0 < cls.length
  n1 : cls.length ≤ 4
  g0 : ∀ i, i < cls.length → 1 ≤ gr cls i
  g1 : ∀ i, i < cls.length → gr cls i ≤ 8
  s0 : ∀ i, i < cls.length → 1 ≤ sl cls i
  s1 : ∀ i, i < cls.length → sl cls i ≤ 16
  up : ∀ i j, i < cls.length → j < i → gr cls j < gr cls i

theorem valid_of {st rest : Int} {cls : List (Int × Int)} (h : validB st rest cls = true) : Valid st rest cls := by
  simp only [validB, headB, Bool.and_eq_true, decide_eq_true_eq, allTo_iff] at h
  obtain ⟨⟨⟨⟨h1, h2⟩, h3⟩, h4⟩, h5, h6⟩ := h
  have he : ∀ i, i < cls.length → i < 4 ∧ 1 ≤ gr cls i ∧ gr cls i ≤ 8 ∧ 1 ≤ sl cls i ∧ sl cls i ≤ 16 ∧ ∀ j, j < i → gr cls j < gr cls i := fun i hi => by
    have := h5 i hi
    simp only [entryB, Bool.and_eq_true, decide_eq_true_eq, allTo_iff] at this
    obtain ⟨⟨⟨⟨⟨a, b⟩, c⟩, d⟩, e⟩, f⟩ := this
    exact ⟨a, b, c, d, e, f⟩
  refine ⟨h1, h2, h3, h4, h6, ?_, fun i hi => (he i hi).2.1, fun i hi => (he i hi).2.2.1, fun i hi => (he i hi).2.2.2.1, fun i hi => (he i hi).2.2.2.2.1, fun i j hi hj => (he i hi).2.2.2.2.2 j hj⟩
  have := (he (cls.length - 1) (by omega)).1
  omega

theorem validB_of {st rest : Int} {cls : List (Int × Int)} (h : Valid st rest cls) : validB st rest cls = true := by
  simp only [validB, headB, Bool.and_eq_true, decide_eq_true_eq, allTo_iff]
  refine ⟨⟨⟨⟨h.st0, h.st1⟩, h.re0⟩, h.re1⟩, fun i hi => ?_, h.n0⟩
  have := h.n1
  simp only [entryB, Bool.and_eq_true, decide_eq_true_eq, allTo_iff]
  exact ⟨⟨⟨⟨⟨by omega, h.g0 i hi⟩, h.g1 i hi⟩, h.s0 i hi⟩, h.s1 i hi⟩, fun j hj => h.up i j hi hj⟩

/-- the granules ahead of class k -/
def gran (st : Int) (cls : List (Int × Int)) : Nat → Int
  | 0 => 1 + st + 1
  | k + 1 => gran st cls k + sl cls k * gr cls k + 1
def begin_ (st : Int) (cls : List (Int × Int)) (k : Nat) (s : Int) : Int := 16 * (gran st cls k + s * gr cls k)

theorem prod_bd {a b : Int} (a0 : 0 ≤ a) (a1 : a ≤ 16) (b0 : 0 ≤ b) (b1 : b ≤ 8) : 0 ≤ a * b ∧ a * b ≤ 128 :=
  ⟨Int.mul_nonneg a0 b0, Int.le_trans (Int.mul_le_mul_of_nonneg_right a1 b0) (by omega)⟩

theorem gran_bd {st rest : Int} {cls : List (Int × Int)} (h : Valid st rest cls) (k : Nat) (hk : k ≤ cls.length) : 2 ≤ gran st cls k ∧ gran st cls k ≤ 18 + 129 * k := by
  induction k with
  | zero => have := h.st0; have := h.st1; simp only [gran]; omega
  | succ k ih =>
    have h1 := ih (by omega)
    have h2 := prod_bd (by have := h.s0 k (by omega); omega) (h.s1 k (by omega)) (by have := h.g0 k (by omega); omega) (h.g1 k (by omega))
    simp only [gran]; omega

theorem begin_bd {st rest : Int} {cls : List (Int × Int)} (h : Valid st rest cls) (k : Nat) (hk : k < cls.length) (s : Int) (s0 : 0 ≤ s) (s1 : s ≤ 16) : 32 ≤ begin_ st cls k s ∧ begin_ st cls k s ≤ 8640 := by
  have h1 := gran_bd h k (by omega)
  have h2 := prod_bd s0 s1 (by have := h.g0 k hk; omega) (h.g1 k hk)
  have h3 := h.n1
  unfold begin_; omega


/-- lies the address in that slot? -/
def inS (st : Int) (cls : List (Int × Int)) (addr : Int) (k s : Nat) : Bool := decide (begin_ st cls k s ≤ addr) && decide (addr < begin_ st cls k s + 16 * gr cls k)
def slotIn (st : Int) (cls : List (Int × Int)) (addr : Int) (k : Nat) : Int := Ref.firstFrom (inS st cls addr k) (sl cls k).toNat 0
def slotFrom (st : Int) (cls : List (Int × Int)) (addr : Int) : Nat → Nat → Int × Int
  | 0, _ => (-1, -1)
  | f + 1, k => if 0 ≤ slotIn st cls addr k then ((k : Int), slotIn st cls addr k) else slotFrom st cls addr f (k + 1)
/-- granuleref.Slot -/
def slot (st : Int) (cls : List (Int × Int)) (addr : Int) : Int × Int := slotFrom st cls addr cls.length 0

theorem slotIn_bd (st : Int) (cls : List (Int × Int)) (addr : Int) (k : Nat) (h : 0 ≤ slotIn st cls addr k) : (slotIn st cls addr k).toNat < (sl cls k).toNat ∧ inS st cls addr k (slotIn st cls addr k).toNat = true := by
  have h1 := Ref.firstFrom_hi (inS st cls addr k) (sl cls k).toNat 0
  have h2 := Ref.firstFrom_at (inS st cls addr k) (sl cls k).toNat 0 h
  unfold slotIn at h ⊢
  exact ⟨by omega, h2.2⟩

theorem slotFrom_bd (st : Int) (cls : List (Int × Int)) (addr : Int) (f k : Nat) : slotFrom st cls addr f k = (-1, -1) ∨
    ∃ i j : Nat, slotFrom st cls addr f k = ((i : Int), (j : Int)) ∧ k ≤ i ∧ i < k + f ∧ j < (sl cls i).toNat ∧ inS st cls addr i j = true := by
  induction f generalizing k with
  | zero => exact .inl rfl
  | succ f ih =>
    simp only [slotFrom]
    by_cases h : 0 ≤ slotIn st cls addr k
    · rw [if_pos h]
      have hb := slotIn_bd st cls addr k h
      exact .inr ⟨k, (slotIn st cls addr k).toNat, by rw [Int.toNat_of_nonneg h], by omega, by omega, hb.1, hb.2⟩
    · rw [if_neg h]
      rcases ih (k + 1) with h1 | ⟨i, j, h1, h2, h3, h4⟩
      · exact .inl h1
      · exact .inr ⟨i, j, h1, by omega, by omega, h4⟩

theorem slot_bd (st : Int) (cls : List (Int × Int)) (addr : Int) : slot st cls addr = (-1, -1) ∨
    ∃ i j : Nat, slot st cls addr = ((i : Int), (j : Int)) ∧ i < cls.length ∧ j < (sl cls i).toNat ∧ inS st cls addr i j = true := by
  rcases slotFrom_bd st cls addr cls.length 0 with h1 | ⟨i, j, h1, _, h3, h4⟩
  · exact .inl h1
  · exact .inr ⟨i, j, h1, by omega, h4⟩

/-- granuleref.Tag -/
def tag (st : Int) (cls : List (Int × Int)) (log : List Ref.Ev) (addr : Int) : Int :=
  if 16 ≤ addr ∧ addr < 16 * (1 + st) then 0
  else if (slot st cls addr).1 < 0 then -1
  else if Ref.state log (slot st cls addr).1 (slot st cls addr).2 ≠ 3 then 15
  else if begin_ st cls (slot st cls addr).1.toNat (slot st cls addr).2 + 16 * (log.getD (Ref.given log (slot st cls addr).1 (slot st cls addr).2).toNat Ref.Ev.no).size ≤ addr then 15
  else (log.getD (Ref.given log (slot st cls addr).1 (slot st cls addr).2).toNat Ref.Ev.no).tag
end Cf
end Go.Proofs.Ytjikemhmnkckcaa
/- A list of classes that can be read (whoever owns it). -/
namespace Go.Proofs.Ytjikemhmnkckcaa
open Go.RowKit

/-- the list's cells -/
def CCells (w : World) (a : Option Addr) (cls : List (Int × Int)) : Prop :=
  0 < cls.length → ∃ g off, a = some ⟨g, off, none⟩ ∧ g < w.heap.size ∧ ∀ i, i < cls.length → w.cell? ⟨g, off + i * 2, none⟩ = some (.int .i64 (Cf.gr cls i)) ∧ w.cell? ⟨g, off + i * 2 + 1, none⟩ = some (.int .i64 (Cf.sl cls i))

structure CRow (w : World) (a : Option Addr) (cap : Nat) (cls : List (Int × Int)) : Prop where
  len : cls.length ≤ cap
  cap : cap ≤ maxLen
  cells : CCells w a cls

theorem CRow.below {w w' : World} {a : Option Addr} {cap : Nat} {cls : List (Int × Int)} (h : CRow w a cap cls) (hb : Below w.heap.size w w') : CRow w' a cap cls :=
  ⟨h.len, h.cap, fun h0 => by
    obtain ⟨g, off, ha, hg, hc⟩ := h.cells h0
    exact ⟨g, off, ha, Nat.lt_of_lt_of_le hg hb.size, fun i hi => ⟨by rw [hb.cell (p := ⟨g, off + i * 2, none⟩) hg]; exact (hc i hi).1, by rw [hb.cell (p := ⟨g, off + i * 2 + 1, none⟩) hg]; exact (hc i hi).2⟩⟩⟩

theorem CRow.of_row {w : World} {v : Value} {cls : List (Int × Int)} (h : w.ownsRow 0 67 2 v cls.length (cls.flatMap clsCells)) :
    ∃ a cap, v = .slice a cls.length cap ∧ CRow w a cap cls := by
  obtain ⟨a, cap, rfl, h1, h2, h3⟩ := row_open h
  refine ⟨a, cap, rfl, h1, h2, fun h0 => ?_⟩
  obtain ⟨g, ha, hg, hc, _⟩ := h3 h0
  refine ⟨g, 0, ha, hg, fun i hi => ?_⟩
  have := cls_cells hc i hi
  simp only [Nat.zero_add]
  exact this
end Go.Proofs.Ytjikemhmnkckcaa
/- Plain mathematics of Pick: the candidates in rising order, how many lie below one, how often each is picked. No program in sight. -/
namespace Go.Proofs.Ytjikemhmnkckcaa
namespace PickMath

/-- those of 1 .. k that p lets, in rising order -/
def cs (p : Nat → Bool) : Nat → List Nat
  | 0 => []
  | k + 1 => if p (k + 1) then cs p k ++ [k + 1] else cs p k

theorem cs_len_le (p : Nat → Bool) (k : Nat) : (cs p k).length ≤ k := by
  induction k with
  | zero => simp [cs]
  | succ k ih =>
    simp only [cs]; split
    · rw [List.length_append, List.length_singleton]; omega
    · omega

theorem cs_more (p : Nat → Bool) {k : Nat} (h : p (k + 1) = true) : (cs p (k + 1)).length = (cs p k).length + 1 := by
  simp [cs, h]

theorem cs_same (p : Nat → Bool) {k : Nat} (h : p (k + 1) = false) : (cs p (k + 1)).length = (cs p k).length := by
  simp [cs, h]

theorem cs_mono (p : Nat → Bool) (k : Nat) : (cs p k).length ≤ (cs p (k + 1)).length := by
  simp only [cs]; split <;> simp

theorem cs_mono' (p : Nat → Bool) {j k : Nat} (h : j ≤ k) : (cs p j).length ≤ (cs p k).length := by
  induction k with
  | zero => obtain rfl : j = 0 := by omega
            exact Nat.le_refl _
  | succ k ih =>
    by_cases e : j = k + 1
    · subst e; exact Nat.le_refl _
    · exact Nat.le_trans (ih (by omega)) (cs_mono p k)

/-- the candidate t stands behind those below it -/
theorem cs_at (p : Nat → Bool) (n t : Nat) (h : t < n) (hp : p (t + 1) = true) : (cs p n)[(cs p t).length]? = some (t + 1) := by
  induction n with
  | zero => omega
  | succ n ih =>
    by_cases e : t = n
    · subst e; simp [cs, hp]
    · have hi := ih (by omega)
      simp only [cs]
      split
      · rw [List.getElem?_append_left]
        · exact hi
        · rcases Nat.lt_or_ge (cs p t).length (cs p n).length with h1 | h1
          · exact h1
          · rw [List.getElem?_eq_none h1] at hi; cases hi
      · exact hi

/-- two candidates with equally many below them are one -/
theorem cs_inj (p : Nat → Bool) {s t : Nat} (hs : p (s + 1) = true) (ht : p (t + 1) = true) (h : (cs p s).length = (cs p t).length) : s = t := by
  rcases Nat.lt_trichotomy s t with h1 | h1 | h1
  · have := cs_mono' p (j := s + 1) (k := t) (by omega)
    rw [cs_more p hs] at this; omega
  · exact h1
  · have := cs_mono' p (j := t + 1) (k := s) (by omega)
    rw [cs_more p ht] at this; omega

/-- each place of the list is some candidate's -/
theorem cs_get (p : Nat → Bool) (n j : Nat) (h : j < (cs p n).length) : ∃ t, t < n ∧ p (t + 1) = true ∧ (cs p t).length = j := by
  induction n with
  | zero => simp [cs] at h
  | succ n ih =>
    by_cases hp : p (n + 1) = true
    · by_cases e : j = (cs p n).length
      · exact ⟨n, by omega, hp, e.symm⟩
      · simp [cs, hp] at h
        obtain ⟨t, h1, h2, h3⟩ := ih (by omega)
        exact ⟨t, by omega, h2, h3⟩
    · simp [cs, hp] at h
      obtain ⟨t, h1, h2, h3⟩ := ih h
      exact ⟨t, by omega, h2, h3⟩

/-- is t none of the three? -/
def ok (l a b : Int) (t : Nat) : Bool := (decide ((t : Int) ≠ l) && decide ((t : Int) ≠ a)) && decide ((t : Int) ≠ b)

theorem ok_iff (l a b : Int) (t : Nat) : ok l a b t = true ↔ (t : Int) ≠ l ∧ (t : Int) ≠ a ∧ (t : Int) ≠ b := by
  simp [ok, and_assoc]

def one (x : Int) (k : Nat) : Nat := if 1 ≤ x ∧ x ≤ k then 1 else 0
theorem one_le (x : Int) (k : Nat) : one x k ≤ 1 := by unfold one; split <;> omega
theorem one_succ (x : Int) (k : Nat) : one x (k + 1) = one x k + if ((k + 1 : Nat) : Int) = x then 1 else 0 := by
  unfold one; split <;> split <;> split <;> omega

theorem cs_many (l a b : Int) (k : Nat) : k ≤ (cs (ok l a b) k).length + one l k + one a k + one b k := by
  induction k with
  | zero => simp
  | succ k ih =>
    rw [one_succ, one_succ, one_succ]
    by_cases h : ok l a b (k + 1) = true
    · simp only [cs, h, if_true, List.length_append, List.length_singleton]; omega
    · have h' : ((k + 1 : Nat) : Int) = l ∨ ((k + 1 : Nat) : Int) = a ∨ ((k + 1 : Nat) : Int) = b := by
        rw [ok_iff] at h; omega
      simp only [cs, h]
      rcases h' with h' | h' | h'
      · rw [if_pos h']; simp; omega
      · rw [if_pos (c := ((k + 1 : Nat) : Int) = a) h']; simp; omega
      · rw [if_pos (c := ((k + 1 : Nat) : Int) = b) h']; simp; omega

/-- how many candidates -/
def many (l a b : Int) : Nat := (cs (ok l a b) 14).length
theorem many_lo (l a b : Int) : 11 ≤ many l a b := by
  have := cs_many l a b 14; have := one_le l 14; have := one_le a 14; have := one_le b 14
  unfold many; omega
theorem many_hi (l a b : Int) : many l a b ≤ 14 := cs_len_le _ _

/-- the draw as it counts -/
def dr (d : Int) : Int := d % 12012
theorem dr_lo (d : Int) : 0 ≤ dr d := by unfold dr; omega
theorem dr_hi (d : Int) : dr d < 12012 := by unfold dr; omega
theorem dr_id {d : Int} (h0 : 0 ≤ d) (h1 : d < 12012) : dr d = d := by unfold dr; omega
theorem dr_dr (d : Int) : dr (dr d) = dr d := dr_id (dr_lo d) (dr_hi d)

theorem tmod_is (d : Int) : d.tmod 12012 = dr d ∨ d.tmod 12012 = dr d - 12012 := by
  rw [Int.tmod_eq_emod]; unfold dr; split
  · left; omega
  · right; rfl
theorem tmod_pos {d : Int} (h : ¬ d.tmod 12012 < 0) : d.tmod 12012 = dr d := by
  have := tmod_is d; have := dr_hi d; omega
theorem tmod_neg {d : Int} (h : d.tmod 12012 < 0) : d.tmod 12012 + 12012 = dr d := by
  have := tmod_is d; have := dr_lo d; omega
theorem tmod_lo (d : Int) : -12012 ≤ d.tmod 12012 := by
  have := tmod_is d; have := dr_lo d; omega
theorem tmod_hi (d : Int) : d.tmod 12012 < 12012 := by
  have := tmod_is d; have := dr_hi d; omega

/-- P5 -/
def pick (l a b d : Int) : Nat := (cs (ok l a b) 14).getD ((dr d).toNat % many l a b) 0

theorem pick_spec (l a b d : Int) : ∃ t, t < 14 ∧ ok l a b (t + 1) = true ∧ (cs (ok l a b) t).length = (dr d).toNat % many l a b ∧ pick l a b d = t + 1 := by
  have hm := many_lo l a b
  have hj : (dr d).toNat % many l a b < (cs (ok l a b) 14).length := Nat.mod_lt _ (by omega)
  obtain ⟨t, h1, h2, h3⟩ := cs_get _ _ _ hj
  refine ⟨t, h1, h2, h3, ?_⟩
  unfold pick
  rw [← h3, List.getD_eq_getElem?_getD, cs_at _ _ _ h1 h2]; rfl

theorem pick_lo (l a b d : Int) : 1 ≤ pick l a b d := by
  obtain ⟨t, _, _, _, h⟩ := pick_spec l a b d; omega
theorem pick_hi (l a b d : Int) : pick l a b d ≤ 14 := by
  obtain ⟨t, _, _, _, h⟩ := pick_spec l a b d; omega
theorem pick_ok (l a b d : Int) : ok l a b (pick l a b d) = true := by
  obtain ⟨t, _, h2, _, h⟩ := pick_spec l a b d; rw [h]; exact h2

theorem pick_of (l a b d : Int) (t : Nat) (h2 : ok l a b (t + 1) = true) (h3 : (cs (ok l a b) t).length = (dr d).toNat % many l a b) : pick l a b d = t + 1 := by
  obtain ⟨s, _, g2, g3, g4⟩ := pick_spec l a b d
  rw [g4, cs_inj _ g2 h2 (by rw [g3, h3])]

theorem pick_ne (l a b d : Int) (t : Nat) (h2 : ok l a b (t + 1) = true) (h3 : (cs (ok l a b) t).length ≠ (dr d).toNat % many l a b) : pick l a b d ≠ t + 1 := by
  obtain ⟨s, _, g2, g3, g4⟩ := pick_spec l a b d
  intro e
  have : s = t := by omega
  subst this
  exact h3 g3

/-- how many of the draws 0 .. n-1 pick t -/
def cnt (l a b : Int) (t : Nat) : Nat → Nat
  | 0 => 0
  | n + 1 => cnt l a b t n + if pick l a b (n : Int) = t then 1 else 0

theorem cnt_le (l a b : Int) (t n : Nat) : cnt l a b t n ≤ n := by
  induction n with
  | zero => simp [cnt]
  | succ n ih => simp only [cnt]; split <;> omega

theorem cnt_bad (l a b : Int) (t n : Nat) (h : ok l a b t = false) : cnt l a b t n = 0 := by
  induction n with
  | zero => rfl
  | succ n ih =>
    have : pick l a b (n : Int) ≠ t := by
      intro e; have := pick_ok l a b (n : Int); rw [e, h] at this; cases this
    simp [cnt, ih, this]

/-- how many of 0 .. n-1 leave j by m -/
def rem (m j : Nat) : Nat → Nat
  | 0 => 0
  | n + 1 => rem m j n + if n % m = j then 1 else 0

theorem rem_block (m j q : Nat) : ∀ r, r ≤ m → rem m j (q * m + r) = rem m j (q * m) + if j < r then 1 else 0 := by
  intro r
  induction r with
  | zero => intro _; simp
  | succ r ih =>
    intro h
    have hi := ih (by omega)
    have e : (q * m + r) % m = r := by
      rw [Nat.add_comm, Nat.add_mul_mod_self_right, Nat.mod_eq_of_lt (by omega)]
    have e2 : rem m j (q * m + (r + 1)) = rem m j (q * m + r) + if (q * m + r) % m = j then 1 else 0 := rfl
    rw [e2, hi, e]
    split <;> split <;> split <;> omega

theorem rem_mul (m j q : Nat) (hj : j < m) : rem m j (q * m) = q := by
  induction q with
  | zero => simp [rem]
  | succ q ih =>
    rw [Nat.succ_mul, rem_block m j q m (Nat.le_refl _), ih, if_pos hj]

theorem cnt_rem (l a b : Int) (t n : Nat) (h : ok l a b (t + 1) = true) (hn : n ≤ 12012) : cnt l a b (t + 1) n = rem (many l a b) (cs (ok l a b) t).length n := by
  induction n with
  | zero => rfl
  | succ n ih =>
    have hd : (dr (n : Int)).toNat = n := by rw [dr_id (by omega) (by omega)]; omega
    simp only [cnt, rem, ih (by omega)]
    by_cases e : n % many l a b = (cs (ok l a b) t).length
    · rw [if_pos e, if_pos (pick_of l a b n t h (by rw [hd, e]))]
    · rw [if_neg e, if_neg (pick_ne l a b n t h (by rw [hd]; exact fun x => e x.symm))]

theorem cnt_good (l a b : Int) (t : Nat) (ht : t < 14) (h : ok l a b (t + 1) = true) : cnt l a b (t + 1) 12012 * many l a b = 12012 := by
  have h1 := many_lo l a b
  have h2 := many_hi l a b
  have hj : (cs (ok l a b) t).length < many l a b := by
    have := cs_mono' (ok l a b) (j := t + 1) (k := 14) (by omega)
    rw [cs_more _ h] at this; unfold many; omega
  rw [cnt_rem l a b t 12012 h (Nat.le_refl _)]
  have hd : 12012 = 12012 / many l a b * many l a b := by
    have : many l a b = 11 ∨ many l a b = 12 ∨ many l a b = 13 ∨ many l a b = 14 := by omega
    rcases this with e | e | e | e <;> rw [e]
  have e : rem (many l a b) (cs (ok l a b) t).length 12012 = 12012 / many l a b := by
    conv => lhs; rw [hd]
    exact rem_mul _ _ _ hj
  rw [e]; exact hd.symm

end PickMath
end Go.Proofs.Ytjikemhmnkckcaa
