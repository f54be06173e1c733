import Derived.Test.YtjikemhmnkckcaaJ52
import Derived.Test.YtjikemhmnkckcaaJ46
/- Eleven draws in a row: at most one gives a tag that is asked for. Plain mathematics. -/
namespace Go.Proofs.Ytjikemhmnkckcaa
open Go.RowKit

namespace PickMath
theorem pick_apart (l a b D : Int) (i j : Nat) (hi : i < 11) (hj : j < 11) (h : pick l a b (D + i) = pick l a b (D + j)) : i = j := by
  obtain ⟨t, _, _, ht, hp⟩ := pick_spec l a b (D + i)
  obtain ⟨t2, _, _, ht2, hp2⟩ := pick_spec l a b (D + j)
  have e : t = t2 := by omega
  subst e
  rw [ht] at ht2
  have h1 := many_lo l a b
  have h2 := many_hi l a b
  generalize many l a b = m at *
  unfold dr at ht2
  have hm : m = 11 ∨ m = 12 ∨ m = 13 ∨ m = 14 := by omega
  rcases hm with rfl | rfl | rfl | rfl <;> omega
end PickMath

theorem cntTo_one (f : Nat → Bool) (n : Nat) (h : ∀ i j, i < n → j < n → f i = true → f j = true → i = j) : cntTo f n ≤ 1 := by
  induction n with
  | zero => show 0 ≤ 1; omega
  | succ n ih =>
    show cntTo f n + (if f n = true then 1 else 0) ≤ 1
    cases hf : f n with
    | false => simp; exact ih fun i j hi hj => h i j (by omega) (by omega)
    | true =>
      have hz : cntTo f n = 0 := cntTo_none f n fun s hs => by
        cases hs2 : f s with
        | false => rfl
        | true => have := h s n (by omega) (by omega) hs2 hf; omega
      rw [hz]; simp
theorem cntTo_all (f : Nat → Bool) (n : Nat) (h : ∀ i j, i < n → j < n → f i = f j) : cntTo f n = 0 ∨ cntTo f n = n := by
  cases n with
  | zero => exact .inl rfl
  | succ n =>
    cases hf : f 0 with
    | false => exact .inl (cntTo_none _ _ fun s hs => by rw [h s 0 hs (by omega)]; exact hf)
    | true =>
      right
      have : ∀ m, m ≤ n + 1 → cntTo f m = m := fun m => by
        induction m with
        | zero => intro _; rfl
        | succ m ih =>
          intro hm
          show cntTo f m + (if f m = true then 1 else 0) = m + 1
          rw [ih (by omega), h m 0 (by omega) (by omega), hf]; simp
      exact this (n + 1) (Nat.le_refl _)

/-- May a pointer touch a byte, when a block was given out with this draw? -/
def chOk (R : RSt) (size D p : Int) (t : Nat) : Bool := decide (((mR R size (D + t) 0).load p 1).2 = 0)
/-- Where the block lies. -/
def chAt (R : RSt) (size D : Int) : Int := (mOut R size D).1 % 72057594037927936
/-- Does the pointer point into the block? -/
def chIn (R : RSt) (size D p : Int) : Bool := decide ((mOut R size D).2 = 0) && decide (0 ≤ p) && decide (chAt R size D ≤ p % 72057594037927936) && decide (p % 72057594037927936 < chAt R size D + 16 * Ref.gsz size)

theorem load_one (R : RSt) (p : Int) : (R.load p 1).2 = (R.access p 1).1 := by
  unfold RSt.load
  rw [if_neg (by decide)]
  split
  · rfl
  · rename_i h
    have : (R.access p 1).1 = 0 := by simpa using h
    rw [this]
theorem access_wild (R : RSt) (p : Int) (h : Ref.tameB p = false) : (R.access p 1).1 = 5 := by
  unfold RSt.access
  rw [if_neg (by omega), if_neg (by omega), h, if_neg (by decide)]

section
variable {G : GSt} {R : RSt} (hs : SimB G R) (size D p : Int) (D0 : 0 ≤ D)
include hs D0
theorem chance_cases : (∀ t : Nat, mOut R size (D + t) = mOut R size D ∧ (mOut R size D).2 ≠ 0) ∨
    ∃ k s : Nat, 1 ≤ size ∧ size ≤ 128 ∧ k < R.cls.length ∧ s < (Cf.sl R.cls k).toNat ∧ size ≤ 16 * Cf.gr R.cls k ∧ Ref.cls_ R.cls size = k ∧ Ref.first R.log R.rest R.cls k = (s : Int) ∧
      ∀ d : Int, mOut R size d = ((Ref.tagOf R.log k s d : Int) * 72057594037927936 + Cf.begin_ R.st R.cls k s, 0) := by
  have _ := D0
  rcases mOut_cases R hs.sim.rok size D with ⟨h, hm⟩ | ⟨k, h1, hk, hkl, hf, hm⟩ | ⟨k, s, h1, hk, hkl, hf, hsl, hz, hm⟩
  · left
    intro t
    have : mOut R size (D + t) = (0, 3) := by unfold mOut; rw [if_pos h]
    rw [this, hm]; exact ⟨rfl, by decide⟩
  · left
    intro t
    have : mOut R size (D + t) = (0, 4) := by unfold mOut; rw [if_neg (by rw [hk]; omega), hk, if_pos hf]
    rw [this, hm]; exact ⟨rfl, by decide⟩
  · right
    have hg := hs.sim.rok.conf.g1 k hkl
    refine ⟨k, s, h1, by omega, hkl, hsl, hz, hk, hf, fun d => ?_⟩
    unfold mOut
    rw [if_neg (by rw [hk]; omega), hk, hf, if_neg (by omega), Int.toNat_natCast]
/-- The draw does not change where the block lies. -/
theorem chance_at (t : Nat) : (mOut R size (D + t)).1 % 72057594037927936 = chAt R size D ∧ (mOut R size (D + t)).2 = (mOut R size D).2 := by
  unfold chAt
  rcases chance_cases hs size D D0 with h | ⟨k, s, _, _, hkl, hsl, _, _, _, hm⟩
  · rw [(h t).1]; exact ⟨rfl, rfl⟩
  · have hs1 := hs.sim.rok.conf.s1 k hkl
    have hb := Cf.begin_bd hs.sim.rok.conf k hkl s (by omega) (by omega)
    rw [hm, hm]
    exact ⟨by show (_ * 72057594037927936 + _) % 72057594037927936 = (_ * 72057594037927936 + _) % 72057594037927936; omega, rfl⟩
theorem chance_math : (chIn R size D p = true → cntTo (chOk R size D p) 11 ≤ 1) ∧ (chIn R size D p = false → cntTo (chOk R size D p) 11 = 0 ∨ cntTo (chOk R size D p) 11 = 11) := by
  rcases chance_cases hs size D D0 with h | ⟨k, s, h1, h2, hkl, hsl, hz, hk, hf, hm⟩
  · have hr : ∀ t : Nat, mR R size (D + t) 0 = R := fun t => by unfold mR; rw [if_neg (by rw [(h t).1]; exact (h t).2)]
    have hc : ∀ i j, i < 11 → j < 11 → chOk R size D p i = chOk R size D p j := fun i j _ _ => by unfold chOk; rw [hr, hr]
    refine ⟨fun hin => ?_, fun _ => cntTo_all _ _ hc⟩
    unfold chIn at hin
    simp only [Bool.and_eq_true, decide_eq_true_eq] at hin
    exact absurd hin.1.1.1 (h 0).2
  · have hv := hs.sim.rok.conf
    have hs1 := hv.s1 k hkl
    have hg0 := hv.g0 k hkl
    have hg1 := hv.g1 k hkl
    have hb := Cf.begin_bd hv k hkl s (by omega) (by omega)
    have hgz : 16 * Ref.gsz size ≤ 16 * Cf.gr R.cls k ∧ 1 ≤ Ref.gsz size := by unfold Ref.gsz; omega
    have hrd : ∀ d : Int, mR R size d 0 = ⟨R.st, R.rest, R.cls, R.log ++ [⟨false, k, s, Ref.tagOf R.log k s d, Ref.gsz size, 0⟩], R.marks⟩ := fun d => mR_ok hk hf (by rw [hm])
    have hat : chAt R size D = Cf.begin_ R.st R.cls k s := by unfold chAt; rw [hm]; show (_ * 72057594037927936 + _) % 72057594037927936 = _; omega
    cases htm : Ref.tameB p with
    | false =>
      have hno : ∀ t, chOk R size D p t = false := fun t => by unfold chOk; rw [load_one, access_wild _ _ htm]; decide
      exact ⟨fun _ => by rw [cntTo_none _ _ fun t _ => hno t]; omega, fun _ => .inl (cntTo_none _ _ fun t _ => hno t)⟩
    | true =>
      obtain ⟨p0, p1, p2⟩ := (tame_iff p).1 htm
      obtain ⟨tg, a, hp, ha0, ha1, ht0⟩ : ∃ tg a : Int, p = tg * 72057594037927936 + a ∧ 0 ≤ a ∧ a ≤ 65535 ∧ 0 ≤ tg := ⟨p / 72057594037927936, p % 72057594037927936, by omega, by omega, p2, by omega⟩
      have hpa : p % 72057594037927936 = a := by omega
      have hpt : p / 72057594037927936 = tg := by omega
      have hacc : ∀ t : Nat, chOk R size D p t = decide (touchE ((mR R size (D + t) 0).tag a) tg = 0) := fun t => by
        unfold chOk
        rw [load_one, hp, access_one _ tg a ht0 (by omega) ha0 ha1]
      by_cases hslot : Cf.slot R.st R.cls a = ((k : Int), (s : Int))
      · have hrange : Cf.begin_ R.st R.cls k s ≤ a ∧ a < Cf.begin_ R.st R.cls k s + 16 * Cf.gr R.cls k := by
          rcases Cf.slot_bd R.st R.cls a with h0 | ⟨k2, s2, h0, _, _, hi⟩
          · rw [hslot] at h0; have := congrArg Prod.fst h0; simp only at this; omega
          · rw [hslot] at h0
            have e1 := congrArg Prod.fst h0
            have e2 := congrArg Prod.snd h0
            simp only at e1 e2
            obtain rfl : k = k2 := by omega
            obtain rfl : s = s2 := by omega
            simpa [Cf.inS] using hi
        by_cases hin : a < Cf.begin_ R.st R.cls k s + 16 * Ref.gsz size
        · have htag : ∀ t : Nat, (mR R size (D + t) 0).tag a = (Ref.tagOf R.log k s (D + t) : Int) := fun t => by
            have hgv : (⟨false, (k : Int), (s : Int), (Ref.tagOf R.log k s (D + t) : Int), Ref.gsz size, 0⟩ : Ref.Ev).gives k s = true := (gives_eq _ _ _ _ _ _ _).2 ⟨rfl, rfl⟩
            rw [hrd]
            have := tag_live (R := ⟨R.st, R.rest, R.cls, R.log ++ [⟨false, k, s, Ref.tagOf R.log k s (D + t), Ref.gsz size, 0⟩], R.marks⟩) hv k s hkl hsl (state_gives _ _ _ _ hgv) a hrange.1 (by show a < _ + 16 * ((R.log ++ [_]).getD (Ref.given (R.log ++ [_]) k s).toNat Ref.Ev.no).size; rw [size_gives _ _ _ _ hgv]; exact hin) (by show ((R.log ++ [_]).getD (Ref.given (R.log ++ [_]) k s).toNat Ref.Ev.no).size ≤ _; rw [size_gives _ _ _ _ hgv]; show Ref.gsz size ≤ Cf.gr R.cls k; omega)
            rw [this]
            show Ref.last (R.log ++ [_]) k s = _
            rw [last_gives _ _ _ _ hgv]
          refine ⟨fun _ => cntTo_one _ _ fun i j hi hj h1 h2 => ?_, fun hno => ?_⟩
          · rw [hacc, htag] at h1 h2
            simp only [decide_eq_true_eq] at h1 h2
            have e : ∀ x : Nat, touchE (x : Int) tg = 0 → (x : Int) = tg := fun x hx => by
              unfold touchE at hx
              split at hx
              · omega
              · split at hx
                · omega
                · omega
            have e1 := e _ h1
            have e2 := e _ h2
            exact PickMath.pick_apart _ _ _ D i j hi hj (by show Ref.tagOf R.log k s (D + i) = Ref.tagOf R.log k s (D + j); omega)
          · exfalso
            have : chIn R size D p = true := by
              unfold chIn
              rw [hat, hpa, hm]
              simp only [Bool.and_eq_true, decide_eq_true_eq]
              exact ⟨⟨⟨trivial, p0⟩, hrange.1⟩, hin⟩
            rw [this] at hno; cases hno
        · have hno : ∀ t, chOk R size D p t = false := fun t => by
            have hgv : (⟨false, (k : Int), (s : Int), (Ref.tagOf R.log k s (D + t) : Int), Ref.gsz size, 0⟩ : Ref.Ev).gives k s = true := (gives_eq _ _ _ _ _ _ _).2 ⟨rfl, rfl⟩
            rw [hacc, hrd]
            have := tag_rest (R := ⟨R.st, R.rest, R.cls, R.log ++ [⟨false, k, s, Ref.tagOf R.log k s (D + t), Ref.gsz size, 0⟩], R.marks⟩) hv k s hkl hsl a hrange.1 hrange.2 (.inr (by show _ + 16 * ((R.log ++ [_]).getD (Ref.given (R.log ++ [_]) k s).toNat Ref.Ev.no).size ≤ a; rw [size_gives _ _ _ _ hgv]; show Cf.begin_ R.st R.cls k s + 16 * Ref.gsz size ≤ a; omega))
            rw [this]
            unfold touchE
            simp
          exact ⟨fun _ => by rw [cntTo_none _ _ fun t _ => hno t]; omega, fun _ => .inl (cntTo_none _ _ fun t _ => hno t)⟩
      · have hsame : ∀ t : Nat, (mR R size (D + t) 0).tag a = R.tag a := fun t => by
          rw [hrd]
          refine tag_other R.st R.cls R.log _ a (fun h0 => ?_)
          rcases Cf.slot_bd R.st R.cls a with h3 | ⟨k2, s2, h3, _, _, _⟩
          · rw [h3] at h0; exact absurd h0 (by decide)
          · rw [h3] at hslot ⊢
            have hne : ¬ (k2 = k ∧ s2 = s) := fun e => hslot (by rw [e.1, e.2])
            refine ⟨?_, takes_no _ _ _ _ _ _ _⟩
            cases eg : (⟨false, (k : Int), (s : Int), (Ref.tagOf R.log k s (D + t) : Int), Ref.gsz size, 0⟩ : Ref.Ev).gives k2 s2
            · rfl
            · exact absurd ((gives_eq _ _ _ _ _ _ _).1 eg) hne
        have hc : ∀ i j, i < 11 → j < 11 → chOk R size D p i = chOk R size D p j := fun i j _ _ => by rw [hacc, hacc, hsame, hsame]
        refine ⟨fun hin => ?_, fun _ => cntTo_all _ _ hc⟩
        exfalso
        unfold chIn at hin
        rw [hat, hpa, hm] at hin
        simp only [Bool.and_eq_true, decide_eq_true_eq] at hin
        exact hslot (slot_at hv k s hkl hsl a hin.1.2 (by omega))
end
end Go.Proofs.Ytjikemhmnkckcaa
namespace Go.Proofs.Ytjikemhmnkckcaa
open Go.RowKit

theorem KIn.bel {w0 w : World} {pb n : Nat} (h : KIn w0 w pb n) : Below w0.heap.size w0 w := by
  obtain ⟨_, _, _, _, _, _, _, _, _, _, _, _, _, _, _, hb, _⟩ := h
  exact hb

theorem TRow.below {w w' : World} {a : Option Addr} {n c : Nat} {u : Nat → Nat → Int} (h : TRow w a n c u) (hb : Below w.heap.size w w') : TRow w' a n c u :=
  ⟨h.len, h.cap, fun h0 => by
    obtain ⟨g, off, ha, hg, hc⟩ := h.cells h0
    exact ⟨g, off, ha, Nat.lt_of_lt_of_le hg hb.size, fun i hi j hj => (hb.cell (p := ⟨g, off + i * 4 + j, none⟩) hg).trans (hc i hi j hj)⟩, h.bd⟩

set_option maxRecDepth 100000 in
set_option maxHeartbeats 1600000 in
theorem rested_any (st rest : Int) (a : Option Addr) (cap : Nat) (cls : List (Int × Int)) (ta : Option Addr) (tlen tcap : Nat) (u : Nat → Nat → Int) (w : World) (h : CRow w a cap cls) (b0 : -9223372036854775808 ≤ st) (b1 : st ≤ 9223372036854775807) (b2 : -9223372036854775808 ≤ rest) (b3 : rest ≤ 9223372036854775807) (hs : TRow w ta tlen tcap u) (hl : tlen ≤ 1048576) :
    Calls Try.prog 7 #[.agg #[.int .i64 st, .int .i64 rest, .slice a cls.length cap], .slice ta tlen tcap] w fun e w' => e = .returned (.bool true) ∧ Below w.heap.size w w' := by
  have HC := hide2 h
  have HS := hide2 hs
  have HBB := hide2 (And.intro (And.intro b0 b1) (And.intro b2 b3))
  clear h hs b0 b1 b2 b3
  go_enter Try.func7, Try.ntmps7
  go_wp2_with fail
  obtain ⟨wa, hwa⟩ : ∃ wa, wa = w.alloc (.cells #[.int .i64 st, .int .i64 rest, .slice a cls.length cap] 24) := ⟨_, rfl⟩
  rw [← hwa]
  have HBA : Hid (Below w.heap.size w wa) := by show Below _ _ _; rw [hwa]; exact (Below.refl _ _).alloc (Nat.le_refl _) _
  clear hwa
  refine (kopen_any st rest a cap cls wa (HC.out.below HBA.out) HBB.out.1.1 HBB.out.1.2 HBB.out.2.1 HBB.out.2.2).mono ?_
  rintro e w1 ⟨pb, rfl, hn⟩
  have HN := hide2 hn
  clear hn
  go_wp2_with fail
  refine (kplays_any wa pb ta tlen tcap u true w1 HN.out (HS.out.below HBA.out) hl).mono ?_
  rintro e w2 ⟨rfl, hi⟩
  have HI := hide2 hi
  clear hi
  go_wp2
  go_ret
  exact ⟨rfl, HBA.out.trans (HI.out.bel.mono HBA.out.size)⟩
end Go.Proofs.Ytjikemhmnkckcaa
