import Derived.Test.YtjikemhmnkckcabJ24
import Derived.Deep.RegionHeld3
/- A block joins the book: came. -/
namespace Go.Proofs.Ytjikemhmnkckcab
open Go.RowKit

end Go.Proofs.Ytjikemhmnkckcab
/- The book: a block stands. -/
namespace Go.Proofs.Ytjikemhmnkckcab
open Go.RowKit

/-- a live block stands: its length, its bytes -/
def Stands (R : RSt) (x : KBlk) : Prop := R.usable x.p = ((x.want.length : Int), 0) ∧ ∀ j : Nat, j < x.want.length → R.load (x.p + j) 1 = (x.want.getD j 0, 0)

end Go.Proofs.Ytjikemhmnkckcab
/- The book against the heap. Plain mathematics. -/
namespace Go.Proofs.Ytjikemhmnkckcab
open Go.RowKit

/-- a block that is live, by the heap -/
structure KLive (R : RSt) (x : KBlk) (k s : Nat) : Prop where
  ek : x.k = k
  es : x.s = s
  hk : k < R.cls.length
  hs : s < (Cf.sl R.cls k).toNat
  st : Ref.state R.log k s = 3
  p : x.p = Ref.last R.log k s * 72057594037927936 + Cf.begin_ R.st R.cls k s
  len : (x.want.length : Int) = 16 * (R.log.getD (Ref.given R.log k s).toNat Ref.Ev.no).size
  byte : ∀ t : Nat, t < x.want.length → x.want.getD t 0 = R.byte (Cf.begin_ R.st R.cls k s + t)

section
variable {G : GSt} {R : RSt} {x : KBlk} {k s : Nat}
theorem KLive.bd (h : KLive R x k s) (hs : SimB G R) : 1 ≤ Ref.last R.log k s ∧ Ref.last R.log k s ≤ 14 ∧ 32 ≤ Cf.begin_ R.st R.cls k s ∧ Cf.begin_ R.st R.cls k s ≤ 8640 ∧ x.want.length ≤ 128 ∧ 16 ≤ x.want.length ∧ (x.want.length : Int) ≤ 16 * Cf.gr R.cls k := by
  have h1 := hs.fits.tag k s (live_given h.st)
  have h2 := hs.fits.size k s (live_given h.st)
  have hv := hs.sim.rok.conf
  have h3 := Cf.begin_bd hv k h.hk s (by omega) (by have := hv.s1 k h.hk; have := h.hs; omega)
  have h4 := hv.g1 k h.hk
  have h5 := h.len
  omega
theorem KLive.at_ (h : KLive R x k s) (hs : SimB G R) (j : Nat) (hj : j < x.want.length) : (x.p + j) % 72057594037927936 = Cf.begin_ R.st R.cls k s + j ∧ (x.p + j) / 72057594037927936 = Ref.last R.log k s ∧ Ref.tameB (x.p + j) = true := by
  have h1 := h.bd hs
  have h2 := h.p
  refine ⟨by omega, by omega, (tame_iff _).2 ⟨by omega, by omega, by omega⟩⟩
theorem KLive.block (h : KLive R x k s) (hs : SimB G R) : Ref.block R.st R.cls R.log x.p = ((k : Int), (s : Int), 0) := by
  have h1 := h.bd hs
  have h2 := h.at_ hs 0 (by omega)
  simp only [Int.natCast_zero, Int.add_zero] at h2
  exact (block_iff hs.sim.rok.conf R.log x.p k s).2 ⟨h.hk, h.hs, h2.2.2, h2.1.symm, h2.2.1.symm, h.st⟩
theorem KLive.tag (h : KLive R x k s) (hs : SimB G R) (j : Nat) (hj : j < x.want.length) : R.tag (Cf.begin_ R.st R.cls k s + j) = Ref.last R.log k s := by
  have h5 := h.len
  exact tag_live hs.sim.rok.conf k s h.hk h.hs h.st _ (by omega) (by omega) (hs.fits.size k s (live_given h.st)).2
theorem KLive.access (h : KLive R x k s) (hs : SimB G R) (j : Nat) (hj : j < x.want.length) : (R.access (x.p + j) 1).1 = 0 := by
  have h1 := h.at_ hs j hj
  have h2 := h.tag hs j hj
  have h3 := h.bd hs
  unfold RSt.access
  rw [if_neg (by omega), if_neg (by omega), h1.2.2, if_pos rfl, h1.1, h1.2.1]
  show (Ref.accFrom R.tag (Ref.last R.log k s) (Cf.begin_ R.st R.cls k s + j) 1 0).1 = 0
  simp only [Ref.accFrom]
  rw [show Cf.begin_ R.st R.cls k s + (j : Int) + ((0 : Nat) : Int) = Cf.begin_ R.st R.cls k s + j by omega, h2, if_neg (by omega), if_neg (by omega)]
theorem KLive.stands (h : KLive R x k s) (hs : SimB G R) : Stands R x := by
  have hb := h.bd hs
  refine ⟨?_, fun j hj => ?_⟩
  · unfold RSt.usable
    rw [h.block hs, if_neg (by simp), h.len]
  · have h1 := h.at_ hs j hj
    have h2 := h.access hs j hj
    unfold RSt.load
    rw [if_neg (by decide), if_neg (by rw [h2]; simp), h1.1, h.byte j hj]
    have h3 := hs.marks.byte_bd (Cf.begin_ R.st R.cls k s + j)
    show (wrap64 (0 + wrap64 (R.byte (Cf.begin_ R.st R.cls k s + j + ((0 : Nat) : Int)) * 1)), (0 : Int)) = _
    rw [show Cf.begin_ R.st R.cls k s + (j : Int) + ((0 : Nat) : Int) = Cf.begin_ R.st R.cls k s + j by omega, wrap64_in (R.byte (Cf.begin_ R.st R.cls k s + j) * 1) (by omega) (by omega), wrap64_in _ (by omega) (by omega)]
    simp
end

/-- how many blocks of the slot were given behind block i -/
def klaterTo (L : List KBlk) (i : Nat) : Nat → Nat
  | 0 => 0
  | m + 1 => klaterTo L i m + if i < m ∧ (L.getD m KBlk.no).k = (L.getD i KBlk.no).k ∧ (L.getD m KBlk.no).s = (L.getD i KBlk.no).s then 1 else 0
def klater (L : List KBlk) (i : Nat) : Nat := klaterTo L i L.length
theorem klaterTo_early (L : List KBlk) (i m : Nat) (h : m ≤ i + 1) : klaterTo L i m = 0 := by
  induction m with
  | zero => rfl
  | succ m ih => simp only [klaterTo]; rw [ih (by omega), if_neg (by omega)]
theorem klaterTo_le (L : List KBlk) (i m : Nat) : klaterTo L i m ≤ m := by
  induction m with
  | zero => exact Nat.le_refl _
  | succ m ih => simp only [klaterTo]; split <;> omega
theorem klaterTo_congr (L M : List KBlk) (i m : Nat) (h : ∀ j, j < m ∨ j = i → (L.getD j KBlk.no).k = (M.getD j KBlk.no).k ∧ (L.getD j KBlk.no).s = (M.getD j KBlk.no).s) : klaterTo L i m = klaterTo M i m := by
  induction m with
  | zero => rfl
  | succ m ih =>
    simp only [klaterTo]
    rw [ih (fun j hj => h j (by omega)), (h m (by omega)).1, (h m (by omega)).2, (h i (by omega)).1, (h i (by omega)).2]
theorem klaterTo_pos (L : List KBlk) (i j m : Nat) (hij : i < j) (hj : j < m) (hk : (L.getD j KBlk.no).k = (L.getD i KBlk.no).k) (hs : (L.getD j KBlk.no).s = (L.getD i KBlk.no).s) : 0 < klaterTo L i m := by
  induction m with
  | zero => omega
  | succ m ih =>
    simp only [klaterTo]
    by_cases e : j = m
    · subst e; rw [if_pos ⟨hij, hk, hs⟩]; omega
    · have := ih (by omega); omega
theorem klater_uniq (L : List KBlk) (i j : Nat) (hi : i < L.length) (hj : j < L.length) (hk : (L.getD j KBlk.no).k = (L.getD i KBlk.no).k) (hs : (L.getD j KBlk.no).s = (L.getD i KBlk.no).s) (zi : klater L i = 0) (zj : klater L j = 0) : i = j := by
  rcases Nat.lt_trichotomy i j with h | h | h
  · have := klaterTo_pos L i j L.length h hj hk hs; unfold klater at zi; omega
  · exact h
  · have := klaterTo_pos L j i L.length h hi hk.symm hs.symm; unfold klater at zj; omega

/-- what the heap has of a block of the book, live or gone, behind which n were given out of its slot -/
structure KHad (R : RSt) (x : KBlk) (n : Nat) (k s : Nat) (t : Int) : Prop where
  ek : x.k = k
  es : x.s = s
  hk : k < R.cls.length
  hs : s < (Cf.sl R.cls k).toNat
  gv : 0 ≤ Ref.given R.log k s
  t0 : 1 ≤ t
  t1 : t ≤ 14
  p : x.p = t * 72057594037927936 + Cf.begin_ R.st R.cls k s
  cur : n = 0 → t = Ref.last R.log k s ∧ (R.log.getD (Ref.given R.log k s).toNat Ref.Ev.no).site = x.site
  dead : n = 0 → x.live = false → Ref.state R.log k s = 4 ∧ (R.log.getD (Ref.gone R.log k s).toNat Ref.Ev.no).site = x.gone
  old : n = 1 → t ≠ Ref.last R.log k s
  lv : x.live = true → n = 0 ∧ x.gone = 0

theorem gone_other (log : List Ref.Ev) (e : Ref.Ev) (k s : Int) (hg : e.gives k s = false) (ht : e.takes k s = false) : Ref.gone (log ++ [e]) k s = Ref.gone log k s := by
  rw [Ref.gone_snoc log e k s hg, ht]
  have := Ref.gone_lo log k s
  by_cases h : 0 ≤ Ref.gone log k s
  · rw [if_pos h]
  · rw [if_neg h]; simp; omega
theorem gone_hi4 {log : List Ref.Ev} {k s : Int} (h : Ref.state log k s = 4) : 0 ≤ Ref.gone log k s ∧ Ref.gone log k s < log.length := by
  rcases state_of log k s with x | x | x
  · omega
  · omega
  · exact ⟨x.2.2, Ref.gone_hi log k s⟩
theorem KHad.other {R : RSt} {x : KBlk} {n k s : Nat} {t : Int} (h : KHad R x n k s t) (e : Ref.Ev) (hg : e.gives k s = false) (ht : e.takes k s = false) : KHad ⟨R.st, R.rest, R.cls, R.log ++ [e], R.marks⟩ x n k s t := by
  refine ⟨h.ek, h.es, h.hk, h.hs, ?_, h.t0, h.t1, h.p, fun hn => ?_, fun hn hl => ?_, fun hn => ?_, h.lv⟩
  · show 0 ≤ Ref.given (R.log ++ [e]) k s
    rw [given_other _ _ _ _ hg]; exact h.gv
  · show t = Ref.last (R.log ++ [e]) k s ∧ ((R.log ++ [e]).getD (Ref.given (R.log ++ [e]) k s).toNat Ref.Ev.no).site = x.site
    rw [last_other _ _ _ _ hg, size_other _ _ _ _ hg h.gv]; exact h.cur hn
  · show Ref.state (R.log ++ [e]) k s = 4 ∧ ((R.log ++ [e]).getD (Ref.gone (R.log ++ [e]) k s).toNat Ref.Ev.no).site = x.gone
    have hd := h.dead hn hl
    have hh := gone_hi4 hd.1
    rw [state_other _ _ _ _ hg ht, gone_other _ _ _ _ hg ht, Ref.getD_old _ _ _ (by omega)]; exact hd
  · show t ≠ Ref.last (R.log ++ [e]) k s
    rw [last_other _ _ _ _ hg]; exact h.old hn

structure KOk (B : KSt) (G : GSt) (R : RSt) : Prop where
  simb : SimB G R
  st : B.st = R.st
  rest : B.rest = R.rest
  cls : B.cls = R.cls
  rests : RestOk R B.F
  live : ∀ j, j < B.L.length → (B.L.getD j KBlk.no).live = true → ∃ k s : Nat, KLive R (B.L.getD j KBlk.no) k s
  uniq : ∀ i j, i < B.L.length → j < B.L.length → (B.L.getD i KBlk.no).live = true → (B.L.getD j KBlk.no).live = true → (B.L.getD i KBlk.no).k = (B.L.getD j KBlk.no).k → (B.L.getD i KBlk.no).s = (B.L.getD j KBlk.no).s → i = j
  cnt : ∀ k, k < R.cls.length → kliveN B.L k B.L.length = cntTo (fun s => decide (Ref.state R.log k s = 3)) (Cf.sl R.cls k).toNat
  had : ∀ i, i < B.L.length → ∃ (k s : Nat) (t : Int), KHad R (B.L.getD i KBlk.no) (klater B.L i) k s t
  nb : ∀ k s : Nat, 0 ≤ Ref.given R.log k s → 0 ≤ Ref.given R.log k ((s : Int) + 1) → Ref.last R.log k s ≠ Ref.last R.log k ((s : Int) + 1)

theorem rests_r {R : RSt} (hl : LogOk R) (k s : Nat) (h3 : Ref.state R.log k s ≠ 3) : Ref.rests R.log R.rest k s = decide (0 < R.r k s) := by
  unfold Ref.rests RSt.r
  rcases state_of R.log k s with x | x | x
  · rw [if_pos (hl.vir k s x.2), if_neg (by omega)]; rfl
  · omega
  · rw [if_neg (by omega), if_pos x.1]
    exact decide_eq_decide.2 (by omega)

section
variable {B : KSt} {G : GSt} {R : RSt}
/-- how many of each kind -/
theorem KOk.three (h : KOk B G R) (k : Nat) (hk : k < R.cls.length) : (kliveN B.L k B.L.length : Int) + kfreeN B.F B.rest k B.F.length + (cntTo (Ref.openB R.log R.rest k) (Cf.sl R.cls k).toNat : Int) = Cf.sl R.cls k := by
  have hv := h.simb.sim.rok.conf
  have hfb := kfreeN_bd B.F R.rest k B.F.length hv.re0
  have hsl := hv.s0 k hk
  obtain ⟨V, hV⟩ := Int.eq_ofNat_of_zero_le hv.re0
  obtain ⟨m, hm⟩ := Int.eq_ofNat_of_zero_le hfb.1
  have hc := h.rests.cnt k hk
  rw [hm, hV] at hc
  have hsum := cntTo_sum (fun s => R.r k s) (Cf.sl R.cls k).toNat V m (by omega) hc V (Nat.le_refl _)
  have hrest : cntTo (fun s => decide (0 < R.r k s)) (Cf.sl R.cls k).toNat = m := by
    rw [cntTo_congr _ (fun s => decide (0 < R.r k s ∧ R.r k s ≤ (V : Int))) _ (fun s _ => decide_eq_decide.2 (by have := r_bd hv.re0 k s; omega)), hsum]
    by_cases c : V - m < V
    · rw [if_pos c]; omega
    · rw [if_neg c]; omega
  have h3 := cntTo_three (fun s => decide (Ref.state R.log k s = 3)) (fun s => decide (0 < R.r k s)) (Ref.openB R.log R.rest k) (Cf.sl R.cls k).toNat (fun s _ => by
    by_cases e : Ref.state R.log k s = 3
    · rw [if_pos (decide_eq_true e), if_neg (by rw [decide_eq_true_eq, r_live (by omega)]; omega), if_neg (by unfold Ref.openB; simp [e])]
    · have hr := rests_r h.simb.sim.log k s e
      rw [if_neg (c := decide (Ref.state R.log k s = 3) = true) (by rw [decide_eq_true_eq]; exact e)]
      have ho : Ref.openB R.log R.rest k s = !decide (0 < R.r k s) := by
        unfold Ref.openB
        rw [hr]
        have : (Ref.state R.log k s != 3) = true := by simp [e]
        rw [this]; rfl
      rw [ho]
      cases decide (0 < R.r k s) <;> rfl)
  rw [h.cnt k hk, h.rest, hm]
  omega
/-- what must come is what comes -/
theorem KOk.expect (h : KOk B G R) (size draw : Int) : kexpect B size = (mOut R size draw).2 := by
  unfold kexpect
  rw [h.cls]
  rcases mOut_cases R h.simb.sim.rok size draw with ⟨hc, hm⟩ | ⟨k, h1, hk, hkl, hf, hm⟩ | ⟨k, s, h1, hk, hkl, hf, hs, hz, hm⟩
  · rw [hm, show gcls R.cls size = -1 from if_pos hc, if_pos (by decide)]
  · have hg : gcls R.cls size = (k : Int) := by unfold gcls; rw [if_neg (by omega), hk]
    rw [hm, hg, if_neg (by omega), Int.toNat_natCast]
    have h3 := h.three k hkl
    have hno : cntTo (Ref.openB R.log R.rest k) (Cf.sl R.cls k).toNat = 0 := cntTo_none _ _ fun s hs => by
      have hlo := Ref.firstFrom_lo (Ref.openB R.log R.rest k) (Cf.sl R.cls k).toNat 0
      change -1 ≤ Ref.first R.log R.rest R.cls k at hlo
      exact Ref.firstFrom_no (Ref.openB R.log R.rest k) (Cf.sl R.cls k).toNat 0 (by change Ref.first R.log R.rest R.cls k = -1; omega) s (by omega) (by omega)
    have : kfull B k = true := by
      unfold kfull
      rw [h.cls]
      exact decide_eq_true (by omega)
    rw [this]; rfl
  · have hg : gcls R.cls size = (k : Int) := by unfold gcls; rw [if_neg (by omega), hk]
    rw [hm, hg, if_neg (by omega), Int.toNat_natCast]
    have h3 := h.three k hkl
    have hat := Ref.firstFrom_at (Ref.openB R.log R.rest k) (Cf.sl R.cls k).toNat 0 (by change 0 ≤ Ref.first R.log R.rest R.cls k; omega)
    have h2 := hat.2
    change Ref.openB R.log R.rest k (Ref.first R.log R.rest R.cls k).toNat = true at h2
    rw [hf, Int.toNat_natCast] at h2
    have hpos := cntTo_some _ _ s hs h2
    have : kfull B k = false := by
      unfold kfull
      rw [h.cls]
      exact decide_eq_false (by omega)
    rw [this]; rfl

/-- the slot that is chosen: by the book no block is live in it, and it doesn't rest -/
theorem KOk.chosen (h : KOk B G R) (k s : Nat) (ho : Ref.openB R.log R.rest k s = true) : klive B.L k s = false ∧ krests B.F B.rest k s = false ∧ R.r k s = 0 ∧ Ref.state R.log k s ≠ 3 := by
  have h3 : Ref.state R.log k s ≠ 3 := fun e => by unfold Ref.openB at ho; simp [e] at ho
  have hr : R.r k s = 0 := by
    have := r_bd (R := R) h.simb.sim.rok.conf.re0 k s
    have hx := rests_r h.simb.sim.log k s h3
    unfold Ref.openB at ho
    rw [hx] at ho
    simp at ho
    omega
  refine ⟨?_, ?_, hr, h3⟩
  · have aux : ∀ n, n ≤ B.L.length → kliveTo B.L k s n = false := by
      intro n
      induction n with
      | zero => intro _; rfl
      | succ n ih =>
        intro hn
        simp only [kliveTo]
        rw [ih (by omega), Bool.false_or]
        cases e : ((B.L.getD n KBlk.no).live && (B.L.getD n KBlk.no).k == (k : Int) && (B.L.getD n KBlk.no).s == (s : Int))
        · rfl
        · exfalso
          simp only [Bool.and_eq_true, beq_iff_eq] at e
          obtain ⟨k', s', hl⟩ := h.live n (by omega) e.1.1
          have e1 := hl.ek
          have e2 := hl.es
          rw [e.1.2] at e1
          rw [e.2] at e2
          obtain rfl : k = k' := by omega
          obtain rfl : s = s' := by omega
          exact h3 hl.st
    exact aux B.L.length (Nat.le_refl _)
  · cases e : krests B.F B.rest k s
    · rfl
    · rw [h.rest] at e
      have := h.rests.look k s 0 (by omega) h3 e
      omega
end
end Go.Proofs.Ytjikemhmnkckcab
