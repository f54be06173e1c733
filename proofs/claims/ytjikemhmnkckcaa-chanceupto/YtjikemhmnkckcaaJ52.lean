import Derived.Test.YtjikemhmnkckcaaJ51
import Derived.Test.YtjikemhmnkckcaaJ37
import Derived.Test.YtjikemhmnkckcaaJ25
/- A script comes to one state, whatever the memory. Plain mathematics. -/
namespace Go.Proofs.Ytjikemhmnkckcaa
open Go.RowKit

def KBlk.bare (x : KBlk) : KBlk := ⟨x.p, x.k, x.s, x.want, 0, x.live, x.site, x.gone⟩
/-- the same book, but for where Go's own memory keeps it -/
structure KSame (B C : KSt) : Prop where
  st : B.st = C.st
  rest : B.rest = C.rest
  cls : B.cls = C.cls
  L : B.L.map KBlk.bare = C.L.map KBlk.bare
  F : B.F = C.F
  now : B.now = C.now
section
variable {B C : KSt}
theorem KSame.len (h : KSame B C) : B.L.length = C.L.length := by have := congrArg List.length h.L; simpa using this
theorem KSame.get (h : KSame B C) (i : Nat) : (B.L.getD i KBlk.no).bare = (C.L.getD i KBlk.no).bare := by
  have e : ∀ L : List KBlk, (L.getD i KBlk.no).bare = (L.map KBlk.bare).getD i KBlk.no := fun L => by
    rw [List.getD_eq_getElem?_getD, List.getD_eq_getElem?_getD, List.getElem?_map]
    cases L[i]? <;> rfl
  rw [e, e, h.L]
theorem bare_p {x y : KBlk} (h : x.bare = y.bare) : x.p = y.p := by have e := congrArg KBlk.p h; exact e
theorem bare_want {x y : KBlk} (h : x.bare = y.bare) : x.want = y.want := by have e := congrArg KBlk.want h; exact e
theorem bare_live {x y : KBlk} (h : x.bare = y.bare) : x.live = y.live := by have e := congrArg KBlk.live h; exact e
theorem bare_k {x y : KBlk} (h : x.bare = y.bare) : x.k = y.k := by have e := congrArg KBlk.k h; exact e
theorem bare_s {x y : KBlk} (h : x.bare = y.bare) : x.s = y.s := by have e := congrArg KBlk.s h; exact e
theorem bare_site {x y : KBlk} (h : x.bare = y.bare) : x.site = y.site := by have e := congrArg KBlk.site h; exact e
theorem bare_gone {x y : KBlk} (h : x.bare = y.bare) : x.gone = y.gone := by have e := congrArg KBlk.gone h; exact e
theorem bare_want_of {x y : KBlk} (h : x.bare = y.bare) (w : List Int) : (x.withWant w).bare = (y.withWant w).bare := by
  unfold KBlk.withWant KBlk.bare
  simp only
  rw [bare_p h, bare_k h, bare_s h, bare_live h, bare_site h, bare_gone h]
theorem bare_off_of {x y : KBlk} (h : x.bare = y.bare) (n : Int) : (x.off n).bare = (y.off n).bare := by
  unfold KBlk.off KBlk.bare
  simp only
  rw [bare_p h, bare_k h, bare_s h, bare_want h, bare_site h]
theorem KSame.on (h : KSame B C) : KSame B.on C.on := ⟨h.st, h.rest, h.cls, h.L, h.F, by show B.now + 1 = C.now + 1; rw [h.now]⟩
theorem KSame.left (h : KSame B C) (i : Nat) : KSame (kleft B i) (kleft C i) := by
  have hg := h.get i
  refine ⟨h.st, h.rest, h.cls, ?_, ?_, h.now⟩
  · show (B.L.set i _).map KBlk.bare = (C.L.set i _).map KBlk.bare
    rw [List.map_set, List.map_set, h.L, bare_off_of hg, h.now]
  · show B.F ++ [_] = C.F ++ [_]
    rw [h.F, bare_k hg, bare_s hg]
theorem KSame.add (h : KSame B C) {x y : KBlk} (hx : x.bare = y.bare) : KSame ⟨B.st, B.rest, B.cls, B.L ++ [x], B.F, B.now⟩ ⟨C.st, C.rest, C.cls, C.L ++ [y], C.F, C.now⟩ := by
  refine ⟨h.st, h.rest, h.cls, ?_, h.F, h.now⟩
  show (B.L ++ [x]).map KBlk.bare = (C.L ++ [y]).map KBlk.bare
  rw [List.map_append, List.map_append, h.L]
  simp [hx]
theorem KSame.put (h : KSame B C) (i : Nat) {x y : KBlk} (hx : x.bare = y.bare) : KSame ⟨B.st, B.rest, B.cls, B.L.set i x, B.F, B.now⟩ ⟨C.st, C.rest, C.cls, C.L.set i y, C.F, C.now⟩ := by
  refine ⟨h.st, h.rest, h.cls, ?_, h.F, h.now⟩
  show (B.L.set i x).map KBlk.bare = (C.L.set i y).map KBlk.bare
  rw [List.map_set, List.map_set, h.L, hx]
theorem KSame.grown (h : KSame B C) (i : Nat) {x y : KBlk} (hx : x.bare = y.bare) : KSame (kgrown B i x) (kgrown C i y) := by
  have hg := h.get i
  unfold kgrown
  refine KSame.left ?_ i
  have h2 := (h.add hx).put B.L.length (x := x.withWant (kcopied x.want (B.L.getD i KBlk.no).want)) (y := y.withWant (kcopied y.want (C.L.getD i KBlk.no).want)) (by rw [bare_want hx, bare_want hg]; exact bare_want_of hx _)
  have hl := h.len
  rw [hl] at h2
  rw [hl]
  exact h2
end
theorem nat_eq {a : Int} {i j : Nat} (h : a = (i : Int)) (g : a = (j : Int)) : i = j := by omega

theorem KStep.det {o0 o1 o2 o3 : Int} {R R1 R2 : RSt} {B C B' C' : KSt} (h : KSame B C) (g : KStep o0 o1 o2 o3 R B R1 B') (g2 : KStep o0 o1 o2 o3 R C R2 C') : R1 = R2 ∧ KSame B' C' := by
  have hl := h.len
  have hnow := h.now
  cases g with
  | none e0 e1 =>
    cases g2 <;> first | exact ⟨rfl, h.on⟩ | (exfalso; omega)
  | dead e0 i hi hlt hd =>
    cases g2 with
    | none _ _ => exact ⟨rfl, h.on⟩
    | dead _ _ _ _ _ => exact ⟨rfl, h.on⟩
    | other _ => exact ⟨rfl, h.on⟩
    | full _ _ => exact ⟨rfl, h.on⟩
    | refull _ _ _ _ _ _ => exact ⟨rfl, h.on⟩
    | gives e _ _ _ _ _ _ => exact absurd e e0
    | frees _ j hj _ hd2 =>
      rw [hl] at hi
      obtain rfl := nat_eq hi hj
      rw [← bare_live (h.get i), hd] at hd2; cases hd2
    | writes _ j _ hj _ hd2 _ =>
      rw [hl] at hi
      obtain rfl := nat_eq hi hj
      rw [← bare_live (h.get i), hd] at hd2; cases hd2
    | regives _ j hj _ hd2 _ _ _ _ _ _ =>
      rw [hl] at hi
      obtain rfl := nat_eq hi hj
      rw [← bare_live (h.get i), hd] at hd2; cases hd2
  | other e =>
    cases g2 <;> first | exact ⟨rfl, h.on⟩ | (exfalso; omega)
  | full e he =>
    cases g2 with
    | gives _ _ _ _ _ _ he2 => exact absurd he2 he
    | none _ _ => exact ⟨rfl, h.on⟩
    | dead _ _ _ _ _ => exact ⟨rfl, h.on⟩
    | other _ => exact ⟨rfl, h.on⟩
    | full _ _ => exact ⟨rfl, h.on⟩
    | refull _ _ _ _ _ _ => exact ⟨rfl, h.on⟩
    | frees e2 _ _ _ _ => exfalso; omega
    | writes e2 _ _ _ _ _ _ => exfalso; omega
    | regives e2 _ _ _ _ _ _ _ _ _ _ => exfalso; omega
  | gives e wb k s hk hf he =>
    cases g2 with
    | full _ he2 => exact absurd he he2
    | none e2 _ => exact absurd e e2
    | dead e2 _ _ _ _ => exact absurd e e2
    | other e2 => exact absurd e e2.1
    | frees e2 _ _ _ _ => exfalso; omega
    | writes e2 _ _ _ _ _ _ => exfalso; omega
    | refull e2 _ _ _ _ _ => exfalso; omega
    | regives e2 _ _ _ _ _ _ _ _ _ _ => exfalso; omega
    | gives _ wb2 k2 s2 hk2 hf2 _ =>
      obtain rfl : k = k2 := by rw [← hk, ← hk2]
      obtain rfl := nat_eq hf hf2
      refine ⟨by rw [hnow], ?_⟩
      have := h.on.add (x := ⟨(Ref.tagOf R.log k s o3 : Int) * 72057594037927936 + Cf.begin_ R.st R.cls k s, k, s, List.replicate (16 * Ref.gsz o2).toNat 0, wb, true, B.now + 1, 0⟩) (y := ⟨(Ref.tagOf R.log k s o3 : Int) * 72057594037927936 + Cf.begin_ R.st R.cls k s, k, s, List.replicate (16 * Ref.gsz o2).toNat 0, wb2, true, C.now + 1, 0⟩) (by unfold KBlk.bare; rw [hnow])
      exact this
  | frees e i hi hlt hd =>
    cases g2 with
    | none e2 h0 => exfalso; omega
    | other e2 => exfalso; omega
    | full e2 _ => exfalso; omega
    | gives e2 _ _ _ _ _ _ => exfalso; omega
    | writes e2 _ _ _ _ _ _ => exfalso; omega
    | refull e2 _ _ _ _ _ => exfalso; omega
    | regives e2 _ _ _ _ _ _ _ _ _ _ => exfalso; omega
    | dead _ j hj _ hd2 =>
      rw [hl] at hi
      obtain rfl := nat_eq hi hj
      rw [← bare_live (h.get i), hd] at hd2; cases hd2
    | frees _ j hj _ _ =>
      rw [hl] at hi
      obtain rfl := nat_eq hi hj
      exact ⟨by rw [bare_p (h.get i), hnow], h.on.left i⟩
  | writes e i j hi hlt hd hj =>
    cases g2 with
    | none e2 h0 => exfalso; omega
    | other e2 => exfalso; omega
    | full e2 _ => exfalso; omega
    | gives e2 _ _ _ _ _ _ => exfalso; omega
    | frees e2 _ _ _ _ => exfalso; omega
    | refull e2 _ _ _ _ _ => exfalso; omega
    | regives e2 _ _ _ _ _ _ _ _ _ _ => exfalso; omega
    | dead _ i2 hi2 _ hd2 =>
      rw [hl] at hi
      obtain rfl := nat_eq hi hi2
      rw [← bare_live (h.get i), hd] at hd2; cases hd2
    | writes _ i2 j2 hi2 _ _ hj2 =>
      rw [hl] at hi
      obtain rfl := nat_eq hi hi2
      have hw := bare_want (h.get i)
      rw [hw] at hj
      obtain rfl := nat_eq hj hj2
      refine ⟨by rw [bare_p (h.get i)], ?_⟩
      have := h.on.put i (x := (B.L.getD i KBlk.no).withWant ((B.L.getD i KBlk.no).want.set j (o3 % 256))) (y := (C.L.getD i KBlk.no).withWant ((C.L.getD i KBlk.no).want.set j (o3 % 256))) (by rw [hw]; exact bare_want_of (h.get i) _)
      exact this
  | refull e i hi hlt hd he =>
    cases g2 with
    | none e2 h0 => exact ⟨rfl, h.on⟩
    | dead _ _ _ _ _ => exact ⟨rfl, h.on⟩
    | other _ => exact ⟨rfl, h.on⟩
    | full _ _ => exact ⟨rfl, h.on⟩
    | refull _ _ _ _ _ _ => exact ⟨rfl, h.on⟩
    | gives e2 _ _ _ _ _ _ => exfalso; omega
    | frees e2 _ _ _ _ => exfalso; omega
    | writes e2 _ _ _ _ _ _ => exfalso; omega
    | regives _ _ _ _ _ _ _ _ _ _ he2 => exact absurd he2 he
  | regives e i hi hlt hd wb k s hk hf he =>
    cases g2 with
    | none e2 h0 => exfalso; omega
    | other e2 => exfalso; omega
    | full e2 _ => exfalso; omega
    | gives e2 _ _ _ _ _ _ => exfalso; omega
    | frees e2 _ _ _ _ => exfalso; omega
    | writes e2 _ _ _ _ _ _ => exfalso; omega
    | refull _ _ _ _ _ he2 => exact absurd he he2
    | dead _ i2 hi2 _ hd2 =>
      rw [hl] at hi
      obtain rfl := nat_eq hi hi2
      rw [← bare_live (h.get i), hd] at hd2; cases hd2
    | regives _ i2 hi2 _ _ wb2 k2 s2 hk2 hf2 _ =>
      rw [hl] at hi
      obtain rfl := nat_eq hi hi2
      obtain rfl : k = k2 := by rw [← hk, ← hk2]
      obtain rfl := nat_eq hf hf2
      refine ⟨by rw [bare_p (h.get i), hnow], ?_⟩
      exact h.on.grown i (by unfold KBlk.bare; rw [hnow])
/-- A script comes to one state. -/
theorem kAfter_det {st rest : Int} {cls : List (Int × Int)} {u : Nat → Nat → Int} (n : Nat) : ∀ {R1 R2 : RSt} {B C : KSt}, kAfter st rest cls u n R1 B → kAfter st rest cls u n R2 C → R1 = R2 ∧ KSame B C := by
  induction n with
  | zero =>
    rintro R1 R2 B C ⟨wb, k, s, hk, hf, rfl, rfl⟩ ⟨wb2, k2, s2, hk2, hf2, rfl, rfl⟩
    obtain rfl : k = k2 := by rw [← hk, ← hk2]
    obtain rfl := nat_eq hf hf2
    exact ⟨rfl, ⟨rfl, rfl, rfl, rfl, rfl, rfl⟩⟩
  | succ n ih =>
    rintro R1 R2 B C ⟨R0, B0, h1, g1⟩ ⟨R0', B0', h2, g2⟩
    obtain ⟨rfl, hs⟩ := ih h1 h2
    exact g1.det hs g2
end Go.Proofs.Ytjikemhmnkckcaa
/- Stale: what a pointer of the book may touch. Plain mathematics. -/
namespace Go.Proofs.Ytjikemhmnkckcaa
open Go.RowKit

theorem access_one (R : RSt) (t a : Int) (t0 : 0 ≤ t) (t1 : t ≤ 15) (a0 : 0 ≤ a) (a1 : a ≤ 65535) : (R.access (t * 72057594037927936 + a) 1).1 = touchE (R.tag a) t := by
  have h1 : (t * 72057594037927936 + a) % 72057594037927936 = a := by omega
  have h2 : (t * 72057594037927936 + a) / 72057594037927936 = t := by omega
  have h3 : Ref.tameB (t * 72057594037927936 + a) = true := (tame_iff _).2 ⟨by omega, by omega, by omega⟩
  unfold RSt.access
  rw [if_neg (by omega), if_neg (by omega), h3, if_pos rfl, h1, h2]
  show (Ref.accFrom R.tag t a 1 0).1 = _
  simp only [Ref.accFrom]
  rw [show a + ((0 : Nat) : Int) = a by omega]
  unfold touchE
  split
  · rfl
  · split <;> rfl

theorem touchE_poison (t : Int) : touchE 15 t = 7 := by unfold touchE; rw [if_neg (by decide), if_pos (.inl rfl)]
theorem touchE_other {tg t : Int} (h0 : 1 ≤ tg) (h : tg ≠ t) : touchE tg t = 7 := by unfold touchE; rw [if_neg (by omega), if_pos (.inr h)]

/-- in a slot: refused, where the tag is not the slot's last -/
theorem slot_refused {G : GSt} {R : RSt} (hs : SimB G R) (k s : Nat) (hk : k < R.cls.length) (hsl : s < (Cf.sl R.cls k).toNat) (t : Int) (h : Ref.state R.log k s = 3 → t ≠ Ref.last R.log k s) (a : Int) (h0 : Cf.begin_ R.st R.cls k s ≤ a) (h1 : a < Cf.begin_ R.st R.cls k s + 16 * Cf.gr R.cls k) : touchE (R.tag a) t = 7 := by
  have hv := hs.sim.rok.conf
  by_cases h3 : Ref.state R.log k s = 3
  · by_cases hin : a < Cf.begin_ R.st R.cls k s + 16 * (R.log.getD (Ref.given R.log k s).toNat Ref.Ev.no).size
    · rw [tag_live hv k s hk hsl h3 a h0 hin (hs.fits.size k s (live_given h3)).2]
      exact touchE_other (hs.fits.tag k s (live_given h3)).1 (fun y => h h3 y.symm)
    · rw [tag_rest hv k s hk hsl a h0 h1 (.inr (by omega))]; exact touchE_poison _
  · rw [tag_rest hv k s hk hsl a h0 h1 (.inl h3)]; exact touchE_poison _

/-- between the classes there is no memory -/
theorem gap_tag {R : RSt} (hv : Cf.Valid R.st R.rest R.cls) (j : Nat) (hj : j ≤ R.cls.length) : R.tag (16 * (Cf.gran R.st R.cls j - 1)) = -1 := by
  have hst : ¬ (16 ≤ 16 * (Cf.gran R.st R.cls j - 1) ∧ 16 * (Cf.gran R.st R.cls j - 1) < 16 * (1 + R.st)) := by
    have h1 := Cf.gran_mono hv 0 j (by omega) hj
    have h2 : Cf.gran R.st R.cls 0 = 1 + R.st + 1 := rfl
    omega
  have hsl : Cf.slot R.st R.cls (16 * (Cf.gran R.st R.cls j - 1)) = (-1, -1) := by
    rcases Cf.slot_bd R.st R.cls (16 * (Cf.gran R.st R.cls j - 1)) with e | ⟨k, s, e, hk, hs, hin⟩
    · exact e
    · exfalso
      simp only [Cf.inS, Bool.and_eq_true, decide_eq_true_eq] at hin
      obtain ⟨h5, h6⟩ := hin
      have g0 := hv.g0 k hk
      have h4 : 0 ≤ (s : Int) * Cf.gr R.cls k := Int.mul_nonneg (by omega) (by omega)
      unfold Cf.begin_ at h5 h6
      by_cases c : k < j
      · have h1 := Cf.gran_mono hv (k + 1) j (by omega) hj
        have h2 : Cf.gran R.st R.cls (k + 1) = Cf.gran R.st R.cls k + Cf.sl R.cls k * Cf.gr R.cls k + 1 := rfl
        have h7 : ((s : Int) + 1) * Cf.gr R.cls k ≤ Cf.sl R.cls k * Cf.gr R.cls k := Int.mul_le_mul_of_nonneg_right (by omega) (by omega)
        rw [Int.add_mul, Int.one_mul] at h7
        omega
      · have h1 := Cf.gran_mono hv j k (by omega) (by omega)
        omega
  unfold RSt.tag Cf.tag
  rw [if_neg hst, hsl, if_pos (by decide)]

section
variable {B : KSt} {G : GSt} {R : RSt} {x : KBlk} {n k s : Nat} {t : Int}
theorem KHad.bd (h : KHad R x n k s t) (hs : SimB G R) : 32 ≤ Cf.begin_ R.st R.cls k s ∧ Cf.begin_ R.st R.cls k s ≤ 8640 ∧ 1 ≤ Cf.gr R.cls k ∧ Cf.gr R.cls k ≤ 8 ∧ (s : Int) < Cf.sl R.cls k := by
  have hv := hs.sim.rok.conf
  have h1 := h.hs
  have h2 := Cf.begin_bd hv k h.hk s (by omega) (by have := hv.s1 k h.hk; omega)
  have h3 := hv.g0 k h.hk
  have h4 := hv.g1 k h.hk
  omega
theorem KHad.pbd (h : KHad R x n k s t) (hs : SimB G R) : 72057594037927936 ≤ x.p ∧ x.p ≤ 1100000000000000000 := by
  have h1 := h.bd hs
  have h2 := h.p
  have h3 := h.t0
  have h4 := h.t1
  omega

/-- its own slot, but for the block itself -/
theorem KHad.own (h : KHad R x n k s t) (hs : SimB G R) (hn : n ≤ 1) (hlv : x.live = true → KLive R x k s) (g : Nat) (hg : (g : Int) < Cf.gr R.cls k) (hout : ¬ (x.live = true ∧ (16 * g : Int) < x.want.length)) : (R.access (x.p + 16 * g) 1).1 = 7 := by
  have hb := h.bd hs
  have h0 := h.t0
  have h1 := h.t1
  rw [h.p, Int.add_assoc, access_one R t _ (by omega) (by omega) (by omega) (by omega)]
  by_cases hl : x.live = true
  · have hL := hlv hl
    have := hL.len
    rw [tag_rest hs.sim.rok.conf k s h.hk h.hs _ (by omega) (by omega) (.inr (by have : ¬ (16 * g : Int) < x.want.length := fun y => hout ⟨hl, y⟩; omega))]
    exact touchE_poison _
  · have hl' : x.live = false := by simpa using hl
    refine slot_refused hs k s h.hk h.hs t (fun h3 => ?_) _ (by omega) (by omega)
    by_cases hz : n = 0
    · have := (h.dead hz hl').1; omega
    · exact h.old (by omega)

theorem begin_next (st : Int) (cls : List (Int × Int)) (k : Nat) (s : Int) : Cf.begin_ st cls k (s + 1) = Cf.begin_ st cls k s + 16 * Cf.gr cls k := by
  unfold Cf.begin_
  rw [Int.add_mul, Int.one_mul]; omega

/-- the slots beside -/
theorem KHad.above (h : KHad R x 0 k s t) (hok : KOk B G R) (hn : s + 1 < (Cf.sl R.cls k).toNat) (g : Nat) (hg : (g : Int) < Cf.gr R.cls k) : (R.access (x.p + 16 * Cf.gr R.cls k + 16 * g) 1).1 = 7 := by
  have hb := h.bd hok.simb
  have h0 := h.t0
  have h1 := h.t1
  have hbn := begin_next R.st R.cls k s
  rw [h.p, show t * 72057594037927936 + Cf.begin_ R.st R.cls k s + 16 * Cf.gr R.cls k + 16 * (g : Int) = t * 72057594037927936 + (Cf.begin_ R.st R.cls k s + 16 * Cf.gr R.cls k + 16 * g) by omega, access_one R t _ (by omega) (by omega) (by omega) (by omega)]
  refine slot_refused hok.simb k (s + 1) h.hk hn t (fun h3 => ?_) _ (by rw [show ((s + 1 : Nat) : Int) = (s : Int) + 1 by omega]; omega) (by rw [show ((s + 1 : Nat) : Int) = (s : Int) + 1 by omega]; omega)
  rw [(h.cur rfl).1]
  exact hok.nb k s h.gv (live_given h3)
theorem KHad.below (h : KHad R x 0 k s t) (hok : KOk B G R) (hn : 1 ≤ s) (g : Nat) (hg : (g : Int) < Cf.gr R.cls k) : (R.access (x.p - 16 * Cf.gr R.cls k + 16 * g) 1).1 = 7 := by
  have hb := h.bd hok.simb
  have h0 := h.t0
  have h1 := h.t1
  obtain ⟨s', rfl⟩ : ∃ s', s = s' + 1 := ⟨s - 1, by omega⟩
  have hbn := begin_next R.st R.cls k s'
  have hbd := Cf.begin_bd hok.simb.sim.rok.conf k h.hk s' (by omega) (by have := hok.simb.sim.rok.conf.s1 k h.hk; omega)
  rw [show ((s' + 1 : Nat) : Int) = (s' : Int) + 1 by omega] at hb
  rw [h.p, show ((s' + 1 : Nat) : Int) = (s' : Int) + 1 by omega, show t * 72057594037927936 + Cf.begin_ R.st R.cls k ((s' : Int) + 1) - 16 * Cf.gr R.cls k + 16 * (g : Int) = t * 72057594037927936 + (Cf.begin_ R.st R.cls k s' + 16 * g) by omega, access_one R t _ (by omega) (by omega) (by omega) (by omega)]
  refine slot_refused hok.simb k s' h.hk (by have := h.hs; omega) t (fun h3 => ?_) _ (by omega) (by omega)
  rw [(h.cur rfl).1]
  exact fun y => hok.nb k s' (live_given h3) h.gv y.symm
/-- .. or no memory there -/
theorem KHad.edgeUp (h : KHad R x n k s t) (hs : SimB G R) (hn : (s : Int) + 1 = Cf.sl R.cls k) : (R.access (x.p + 16 * Cf.gr R.cls k) 1).1 = 6 := by
  have hb := h.bd hs
  have h0 := h.t0
  have h1 := h.t1
  have hbn := begin_next R.st R.cls k s
  have hg := gap_tag hs.sim.rok.conf (k + 1) (by have := h.hk; omega)
  have h2 : Cf.gran R.st R.cls (k + 1) = Cf.gran R.st R.cls k + Cf.sl R.cls k * Cf.gr R.cls k + 1 := rfl
  have h3 : Cf.begin_ R.st R.cls k ((s : Int) + 1) = 16 * (Cf.gran R.st R.cls (k + 1) - 1) := by
    unfold Cf.begin_
    rw [hn, h2]; omega
  rw [h.p, Int.add_assoc, ← hbn, access_one R t _ (by omega) (by omega) (by omega) (by omega), h3, hg]
  rfl
theorem KHad.edgeDown (h : KHad R x n k s t) (hs : SimB G R) (hn : s = 0) : (R.access (x.p - 16) 1).1 = 6 := by
  have hb := h.bd hs
  have h0 := h.t0
  have h1 := h.t1
  have hg := gap_tag hs.sim.rok.conf k (by have := h.hk; omega)
  have h3 : Cf.begin_ R.st R.cls k s - 16 = 16 * (Cf.gran R.st R.cls k - 1) := by
    unfold Cf.begin_
    rw [hn]
    simp; omega
  rw [h.p, show t * 72057594037927936 + Cf.begin_ R.st R.cls k s - 16 = t * 72057594037927936 + (Cf.begin_ R.st R.cls k s - 16) by omega, access_one R t _ (by omega) (by omega) (by omega) (by omega), h3, hg]
  rfl
end
end Go.Proofs.Ytjikemhmnkckcaa
