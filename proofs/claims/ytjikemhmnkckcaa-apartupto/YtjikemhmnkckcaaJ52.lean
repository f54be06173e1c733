import Derived.Test.YtjikemhmnkckcaaJ41
import Derived.Test.YtjikemhmnkckcaaJ27
import Derived.Test.YtjikemhmnkckcaaJ51
/- Stale: what a pointer of the book may touch. Plain mathematics. -/
namespace Go.Proofs.Ytjikemhmnkckcaa
open Go.RowKit

theorem access_one (R : RSt) (t a : Int) (t0 : 0 ≤ t) (t1 : t ≤ 15) (a0 : 0 ≤ a) (a1 : a ≤ 65535) : (R.access (t * 72057594037927936 + a) 1).1 = touchE (R.tag a) t := by
  have h1 : (t * 72057594037927936 + a) % 72057594037927936 = a := by omega
  have h2 : (t * 72057594037927936 + a) / 72057594037927936 = t := by omega
  have h3 : Ref.tameB (t * 72057594037927936 + a) = true := (tame_iff _).2 ⟨by omega, by omega, by omega⟩
  unfold RSt.access
  rw [if_neg (by omega), if_neg (by omega), h3, if_pos rfl, h1, h2]
  show (Ref.accFrom R.tag t a 1 0).1 = _
  simp only [Ref.accFrom]
  rw [show a + ((0 : Nat) : Int) = a by omega]
  unfold touchE
  split
  · rfl
  · split <;> rfl

theorem touchE_poison (t : Int) : touchE 15 t = 7 := by unfold touchE; rw [if_neg (by decide), if_pos (.inl rfl)]
theorem touchE_other {tg t : Int} (h0 : 1 ≤ tg) (h : tg ≠ t) : touchE tg t = 7 := by unfold touchE; rw [if_neg (by omega), if_pos (.inr h)]

/-- in a slot: refused, where the tag is not the slot's last -/
theorem slot_refused {G : GSt} {R : RSt} (hs : SimB G R) (k s : Nat) (hk : k < R.cls.length) (hsl : s < (Cf.sl R.cls k).toNat) (t : Int) (h : Ref.state R.log k s = 3 → t ≠ Ref.last R.log k s) (a : Int) (h0 : Cf.begin_ R.st R.cls k s ≤ a) (h1 : a < Cf.begin_ R.st R.cls k s + 16 * Cf.gr R.cls k) : touchE (R.tag a) t = 7 := by
  have hv := hs.sim.rok.conf
  by_cases h3 : Ref.state R.log k s = 3
  · by_cases hin : a < Cf.begin_ R.st R.cls k s + 16 * (R.log.getD (Ref.given R.log k s).toNat Ref.Ev.no).size
    · rw [tag_live hv k s hk hsl h3 a h0 hin (hs.fits.size k s (live_given h3)).2]
      exact touchE_other (hs.fits.tag k s (live_given h3)).1 (fun y => h h3 y.symm)
    · rw [tag_rest hv k s hk hsl a h0 h1 (.inr (by omega))]; exact touchE_poison _
  · rw [tag_rest hv k s hk hsl a h0 h1 (.inl h3)]; exact touchE_poison _

/-- between the classes there is no memory -/
theorem gap_tag {R : RSt} (hv : Cf.Valid R.st R.rest R.cls) (j : Nat) (hj : j ≤ R.cls.length) : R.tag (16 * (Cf.gran R.st R.cls j - 1)) = -1 := by
  have hst : ¬ (16 ≤ 16 * (Cf.gran R.st R.cls j - 1) ∧ 16 * (Cf.gran R.st R.cls j - 1) < 16 * (1 + R.st)) := by
    have h1 := Cf.gran_mono hv 0 j (by omega) hj
    have h2 : Cf.gran R.st R.cls 0 = 1 + R.st + 1 := rfl
    omega
  have hsl : Cf.slot R.st R.cls (16 * (Cf.gran R.st R.cls j - 1)) = (-1, -1) := by
    rcases Cf.slot_bd R.st R.cls (16 * (Cf.gran R.st R.cls j - 1)) with e | ⟨k, s, e, hk, hs, hin⟩
    · exact e
    · exfalso
      simp only [Cf.inS, Bool.and_eq_true, decide_eq_true_eq] at hin
      obtain ⟨h5, h6⟩ := hin
      have g0 := hv.g0 k hk
      have h4 : 0 ≤ (s : Int) * Cf.gr R.cls k := Int.mul_nonneg (by omega) (by omega)
      unfold Cf.begin_ at h5 h6
      by_cases c : k < j
      · have h1 := Cf.gran_mono hv (k + 1) j (by omega) hj
        have h2 : Cf.gran R.st R.cls (k + 1) = Cf.gran R.st R.cls k + Cf.sl R.cls k * Cf.gr R.cls k + 1 := rfl
        have h7 : ((s : Int) + 1) * Cf.gr R.cls k ≤ Cf.sl R.cls k * Cf.gr R.cls k := Int.mul_le_mul_of_nonneg_right (by omega) (by omega)
        rw [Int.add_mul, Int.one_mul] at h7
        omega
      · have h1 := Cf.gran_mono hv j k (by omega) (by omega)
        omega
  unfold RSt.tag Cf.tag
  rw [if_neg hst, hsl, if_pos (by decide)]

section
variable {B : KSt} {G : GSt} {R : RSt} {x : KBlk} {n k s : Nat} {t : Int}
theorem KHad.bd (h : KHad R x n k s t) (hs : SimB G R) : 32 ≤ Cf.begin_ R.st R.cls k s ∧ Cf.begin_ R.st R.cls k s ≤ 8640 ∧ 1 ≤ Cf.gr R.cls k ∧ Cf.gr R.cls k ≤ 8 ∧ (s : Int) < Cf.sl R.cls k := by
  have hv := hs.sim.rok.conf
  have h1 := h.hs
  have h2 := Cf.begin_bd hv k h.hk s (by omega) (by have := hv.s1 k h.hk; omega)
  have h3 := hv.g0 k h.hk
  have h4 := hv.g1 k h.hk
  omega
theorem KHad.pbd (h : KHad R x n k s t) (hs : SimB G R) : 72057594037927936 ≤ x.p ∧ x.p ≤ 1100000000000000000 := by
  have h1 := h.bd hs
  have h2 := h.p
  have h3 := h.t0
  have h4 := h.t1
  omega

/-- its own slot, but for the block itself -/
theorem KHad.own (h : KHad R x n k s t) (hs : SimB G R) (hn : n ≤ 1) (hlv : x.live = true → KLive R x k s) (g : Nat) (hg : (g : Int) < Cf.gr R.cls k) (hout : ¬ (x.live = true ∧ (16 * g : Int) < x.want.length)) : (R.access (x.p + 16 * g) 1).1 = 7 := by
  have hb := h.bd hs
  have h0 := h.t0
  have h1 := h.t1
  rw [h.p, Int.add_assoc, access_one R t _ (by omega) (by omega) (by omega) (by omega)]
  by_cases hl : x.live = true
  · have hL := hlv hl
    have := hL.len
    rw [tag_rest hs.sim.rok.conf k s h.hk h.hs _ (by omega) (by omega) (.inr (by have : ¬ (16 * g : Int) < x.want.length := fun y => hout ⟨hl, y⟩; omega))]
    exact touchE_poison _
  · have hl' : x.live = false := by simpa using hl
    refine slot_refused hs k s h.hk h.hs t (fun h3 => ?_) _ (by omega) (by omega)
    by_cases hz : n = 0
    · have := (h.dead hz hl').1; omega
    · exact h.old (by omega)

theorem begin_next (st : Int) (cls : List (Int × Int)) (k : Nat) (s : Int) : Cf.begin_ st cls k (s + 1) = Cf.begin_ st cls k s + 16 * Cf.gr cls k := by
  unfold Cf.begin_
  rw [Int.add_mul, Int.one_mul]; omega

/-- the slots beside -/
theorem KHad.above (h : KHad R x 0 k s t) (hok : KOk B G R) (hn : s + 1 < (Cf.sl R.cls k).toNat) (g : Nat) (hg : (g : Int) < Cf.gr R.cls k) : (R.access (x.p + 16 * Cf.gr R.cls k + 16 * g) 1).1 = 7 := by
  have hb := h.bd hok.simb
  have h0 := h.t0
  have h1 := h.t1
  have hbn := begin_next R.st R.cls k s
  rw [h.p, show t * 72057594037927936 + Cf.begin_ R.st R.cls k s + 16 * Cf.gr R.cls k + 16 * (g : Int) = t * 72057594037927936 + (Cf.begin_ R.st R.cls k s + 16 * Cf.gr R.cls k + 16 * g) by omega, access_one R t _ (by omega) (by omega) (by omega) (by omega)]
  refine slot_refused hok.simb k (s + 1) h.hk hn t (fun h3 => ?_) _ (by rw [show ((s + 1 : Nat) : Int) = (s : Int) + 1 by omega]; omega) (by rw [show ((s + 1 : Nat) : Int) = (s : Int) + 1 by omega]; omega)
  rw [(h.cur rfl).1]
  exact hok.nb k s h.gv (live_given h3)
theorem KHad.below (h : KHad R x 0 k s t) (hok : KOk B G R) (hn : 1 ≤ s) (g : Nat) (hg : (g : Int) < Cf.gr R.cls k) : (R.access (x.p - 16 * Cf.gr R.cls k + 16 * g) 1).1 = 7 := by
  have hb := h.bd hok.simb
  have h0 := h.t0
  have h1 := h.t1
  obtain ⟨s', rfl⟩ : ∃ s', s = s' + 1 := ⟨s - 1, by omega⟩
  have hbn := begin_next R.st R.cls k s'
  have hbd := Cf.begin_bd hok.simb.sim.rok.conf k h.hk s' (by omega) (by have := hok.simb.sim.rok.conf.s1 k h.hk; omega)
  rw [show ((s' + 1 : Nat) : Int) = (s' : Int) + 1 by omega] at hb
  rw [h.p, show ((s' + 1 : Nat) : Int) = (s' : Int) + 1 by omega, show t * 72057594037927936 + Cf.begin_ R.st R.cls k ((s' : Int) + 1) - 16 * Cf.gr R.cls k + 16 * (g : Int) = t * 72057594037927936 + (Cf.begin_ R.st R.cls k s' + 16 * g) by omega, access_one R t _ (by omega) (by omega) (by omega) (by omega)]
  refine slot_refused hok.simb k s' h.hk (by have := h.hs; omega) t (fun h3 => ?_) _ (by omega) (by omega)
  rw [(h.cur rfl).1]
  exact fun y => hok.nb k s' (live_given h3) h.gv y.symm
/-- .. or no memory there -/
theorem KHad.edgeUp (h : KHad R x n k s t) (hs : SimB G R) (hn : (s : Int) + 1 = Cf.sl R.cls k) : (R.access (x.p + 16 * Cf.gr R.cls k) 1).1 = 6 := by
  have hb := h.bd hs
  have h0 := h.t0
  have h1 := h.t1
  have hbn := begin_next R.st R.cls k s
  have hg := gap_tag hs.sim.rok.conf (k + 1) (by have := h.hk; omega)
  have h2 : Cf.gran R.st R.cls (k + 1) = Cf.gran R.st R.cls k + Cf.sl R.cls k * Cf.gr R.cls k + 1 := rfl
  have h3 : Cf.begin_ R.st R.cls k ((s : Int) + 1) = 16 * (Cf.gran R.st R.cls (k + 1) - 1) := by
    unfold Cf.begin_
    rw [hn, h2]; omega
  rw [h.p, Int.add_assoc, ← hbn, access_one R t _ (by omega) (by omega) (by omega) (by omega), h3, hg]
  rfl
theorem KHad.edgeDown (h : KHad R x n k s t) (hs : SimB G R) (hn : s = 0) : (R.access (x.p - 16) 1).1 = 6 := by
  have hb := h.bd hs
  have h0 := h.t0
  have h1 := h.t1
  have hg := gap_tag hs.sim.rok.conf k (by have := h.hk; omega)
  have h3 : Cf.begin_ R.st R.cls k s - 16 = 16 * (Cf.gran R.st R.cls k - 1) := by
    unfold Cf.begin_
    rw [hn]
    simp; omega
  rw [h.p, show t * 72057594037927936 + Cf.begin_ R.st R.cls k s - 16 = t * 72057594037927936 + (Cf.begin_ R.st R.cls k s - 16) by omega, access_one R t _ (by omega) (by omega) (by omega) (by omega), h3, hg]
  rfl
end
end Go.Proofs.Ytjikemhmnkckcaa
/- Stale: a block's own slot. -/
namespace Go.Proofs.Ytjikemhmnkckcaa
open Go.RowKit

set_option maxRecDepth 100000 in
set_option maxHeartbeats 3200000 in
theorem kinside_any (pb ph : Nat) (gc : Value) (bb : Nat) (G : GSt) (R : RSt) (vc vL vF : Value) (B : KSt) (i : Nat) (w : World) (h : KRep w pb ph gc bb G vc vL vF B) (hok : KOk B G R) (hi : i < B.L.length) :
    Calls Try.prog 25 #[.pointer (some ⟨pb, 0, none⟩), .int .i64 (i : Int)] w fun e w' => e = .returned (.bool true) ∧ Below w.heap.size w w' := by
  obtain ⟨k, s, t, hh⟩ := hok.had i hi
  have hbd := hh.bd hok.simb
  have hpd := hh.pbd hok.simb
  obtain ⟨ca, ccap, hvc, hcr⟩ := h.crow
  subst hvc
  obtain ⟨cg, coff, rfl, hcgl, hccell⟩ := hcr.cells (by rw [hok.cls]; exact hok.simb.sim.rok.conf.n0)
  have hccap := hcr.cap
  have hclen := hcr.len
  unfold maxLen at hccap
  have hkk : k < B.cls.length := by rw [hok.cls]; exact hh.hk
  have dk := (hccell k hkk).1
  obtain ⟨al, cap, rfl, hcap, hmax, hrow⟩ := row_open h.L
  obtain ⟨g, rfl, hgl, hcell, hfrz⟩ := hrow (by omega)
  unfold maxLen at hmax
  have HK := hide2 h
  have HS := hide2 hok.simb
  have hpb := h.blk.lt
  have c2 := h.blk.cell (j := 2) rfl
  have c3 := h.blk.cell (j := 3) rfl
  have c4 := h.blk.cell (j := 4) rfl
  obtain ⟨d0, d1, d2, d3, d4, d5, d6⟩ := kblk_cells hcell i hi
  have hiI : (i : Int) < (B.L.length : Int) := by omega
  have HG := hide2 h.heap
  have HLT := hide2 (klaterTo_le B.L i B.L.length)
  have hlv : (B.L.getD i KBlk.no).live = true → KLive R (B.L.getD i KBlk.no) k s := fun hl => by
    obtain ⟨k2, s2, hl2⟩ := hok.live i hi hl
    have a1 := hl2.ek
    have a2 := hl2.es
    rw [hh.ek] at a1
    rw [hh.es] at a2
    obtain rfl : k = k2 := by omega
    obtain rfl : s = s2 := by omega
    exact hl2
  have HOWN : Hid (klater B.L i ≤ 1 → ∀ m : Nat, (m : Int) < Cf.gr B.cls k → ¬ ((B.L.getD i KBlk.no).live = true ∧ (16 * m : Int) < (B.L.getD i KBlk.no).want.length) → (R.access ((B.L.getD i KBlk.no).p + 16 * m) 1).1 = 7) := by
    rw [hok.cls]
    exact fun hn m hm hout => hh.own hok.simb hn hlv m hm hout
  have HIN : Hid (∀ m : Nat, (B.L.getD i KBlk.no).live = true → (16 * m : Int) < (B.L.getD i KBlk.no).want.length → (R.load ((B.L.getD i KBlk.no).p + 16 * m) 1).2 = 0) := fun m hl hm => by
    have := (hlv hl).access hok.simb (16 * m) (by omega)
    rw [show (((16 * m : Nat) : Int)) = 16 * (m : Int) by omega] at this
    unfold RSt.load
    rw [if_neg (by decide), if_neg (by rw [this]; simp)]
  have hg8 : Cf.gr B.cls k ≤ 8 := by rw [hok.cls]; omega
  rw [hh.ek] at d1
  obtain ⟨n, hn⟩ : ∃ n, n = klater B.L i := ⟨_, rfl⟩
  have HNL := hide2 hn
  rw [← hn] at HOWN
  have hn1 : n ≤ B.L.length := by rw [hn]; exact HLT.out
  generalize hxe : B.L.getD i KBlk.no = x at *
  clear h hok hrow hcell hfrz hh hn hxe hccell hcr hlv
  go_enter Try.func25, Try.ntmps25
  go_wp2_with fail
  obtain ⟨wa, hwa⟩ : ∃ wa, wa = w.alloc (.cells #[.int .i64 x.p, .int .i64 k, .int .i64 x.s, .slice (some ⟨x.wb, 0, none⟩) x.want.length x.want.length, .bool x.live, .int .i64 x.site, .int .i64 x.gone] 53) := ⟨_, rfl⟩
  rw [← hwa]
  have hba : Below w.heap.size w wa := by rw [hwa]; exact (Below.refl _ _).alloc (Nat.le_refl _) _
  have hsa : wa.heap.size = w.heap.size + 1 := by rw [hwa, World.size_alloc]
  have HX : Hid (Blk wa w.heap.size 53 [.int .i64 x.p, .int .i64 k, .int .i64 x.s, .slice (some ⟨x.wb, 0, none⟩) x.want.length x.want.length, .bool x.live, .int .i64 x.site, .int .i64 x.gone]) := by rw [hwa]; exact Blk.alloc _ _ _
  have HBA := hide2 hba
  obtain ⟨ob, hobe⟩ : ∃ ob, ob = w.heap.size := ⟨_, rfl⟩
  rw [← hobe] at HX ⊢
  have HXO := hide2 hobe
  have hob : ob < wa.heap.size := by omega
  clear hwa c2 c3 c4 d0 d1 d2 d3 d4 d5 d6 hba hobe
  refine (klater_any pb _ _ _ _ _ _ _ B.L i wa (HK.out.below HBA.out).blk (HK.out.below HBA.out).L hi).mono ?_
  rw [← HNL.out]
  rintro e1 w1 ⟨rfl, hb1⟩
  have HB1 : Hid (Below w.heap.size w w1) := HBA.out.trans (hb1.mono HBA.out.size)
  have HX1 := hide2 (HX.out.below hb1 hob)
  have hob1 : ob < w1.heap.size := Nat.lt_of_lt_of_le hob hb1.size
  clear hb1 hob hsa HX
  have hxw : ∀ m : Nat, (m : Int) ≤ 8 → IntKind.i64.wrap (x.p + 16 * (m : Int)) = x.p + 16 * (m : Int) := fun m hm => by rw [IntKind.wrap_i64]; omega
  have HXW := hide2 hxw
  have hkI : (k : Int) < (B.cls.length : Int) := by omega
  clear hxw
  go_wp2
  go_loopw [7] (fun j wr => ∃ m : Nat, (m : Int) ≤ max (Cf.gr B.cls k) 0 ∧ j = .int .i64 (m : Int) ∧ Below w.heap.size w wr ∧ Hid (Blk wr ob 53 [.int .i64 x.p, .int .i64 k, .int .i64 x.s, .slice (some ⟨x.wb, 0, none⟩) x.want.length x.want.length, .bool x.live, .int .i64 x.site, .int .i64 x.gone])) (fun j _ => (Cf.gr B.cls k - intOf j).toNat)
  case atStart => exact ⟨0, by omega, rfl, HB1.out, HX1⟩
  case round =>
    obtain ⟨m, hm, rfl, hb, HXR⟩ := hrel
    have hobr := HXR.out.lt
    have b0 := HXR.out.cell (j := 0) rfl
    have b1 := HXR.out.cell (j := 1) rfl
    have b3 := HXR.out.cell (j := 3) rfl
    have b4 := HXR.out.cell (j := 4) rfl
    have c2' := (hb.cell (p := ⟨pb, 2, none⟩) hpb).trans (HK.out.blk.cell (j := 2) rfl)
    have c3' := (hb.cell (p := ⟨pb, 3, none⟩) hpb).trans (HK.out.blk.cell (j := 3) rfl)
    have dk' := (hb.cell (p := ⟨cg, coff + k * 2, none⟩) hcgl).trans dk
    have hpr : pb < wr.heap.size := Nat.lt_of_lt_of_le hpb hb.size
    have HB := hide2 hb
    clear hb dk
    generalize Cf.gr B.cls k = gr at *
    by_cases hlt : (m : Int) < gr
    · have hw1 := HXW.out m (by omega)
      by_cases hin : x.live = true ∧ (16 * m : Int) < x.want.length
      · have HLD := hide2 (HIN.out m hin.1 hin.2)
        have hl := hin.1
        have hlw := hin.2
        rw [hl] at b4
        clear hin hl
        go_wp2_with fail
        go_quiet (fail)
        go_wp2_with fail
        have HBQ : Hid (Below w.heap.size w (wr.drewN nq)) := below_drewN HB.out _
        have HXQ : Hid (Blk (wr.drewN nq) ob 53 [.int .i64 x.p, .int .i64 k, .int .i64 x.s, .slice (some ⟨x.wb, 0, none⟩) x.want.length x.want.length, .bool x.live, .int .i64 x.site, .int .i64 x.gone]) := HXR.out.below (below_drewN (Below.refl wr.heap.size wr) nq) hobr
        clear b0 b1 b3 b4 c2' c3' dk'
        generalize wr.drewN nq = wq at *
        have hobq := HXQ.out.lt
        refine (gload_any ph gc bb G R (x.p + 16 * (m : Int)) 1 wq (HG.out.below HBQ.out) HS.out (by omega)).mono ?_
        rw [HLD.out]
        rintro e w2 ⟨rfl, hb2⟩
        have HB2 : Hid (Below w.heap.size w w2) := HBQ.out.trans (hb2.mono HBQ.out.size)
        have HX2 := hide2 (HXQ.out.below hb2 hobq)
        clear hb2
        go_wp2
        go_roundw
        case rel => exact ⟨m + 1, by omega, by go_num, HB2.out, HX2⟩
        case measure => simp [intOf]; omega
      · by_cases hn2 : 1 < n
        · have hn3 : (1 : Int) < (n : Int) := by omega
          cases hl : x.live with
          | false =>
            rw [hl] at b4
            go_wp2_with fail
            go_quiet (fail)
            go_wp2
            go_roundw
            case rel => exact ⟨m + 1, by omega, by go_num, below_drewN HB.out _, by show Blk _ _ _ _; rw [← hl]; exact HXR.out.below (below_drewN (Below.refl wr.heap.size wr) _) hobr⟩
            case measure => simp [intOf]; omega
          | true =>
            have hlw : (x.want.length : Int) ≤ 16 * (m : Int) := by
              have : ¬ (16 * m : Int) < x.want.length := fun y => hin ⟨hl, y⟩
              omega
            rw [hl] at b4
            go_wp2_with fail
            go_quiet (fail)
            go_wp2
            go_roundw
            case rel => exact ⟨m + 1, by omega, by go_num, below_drewN HB.out _, by show Blk _ _ _ _; rw [← hl]; exact HXR.out.below (below_drewN (Below.refl wr.heap.size wr) _) hobr⟩
            case measure => simp [intOf]; omega
        · have hn3 : (n : Int) ≤ 1 := by omega
          have HREF := hide2 (HOWN.out (by omega) m hlt hin)
          cases hl : x.live with
          | false =>
            rw [hl] at b4
            go_wp2_with fail
            go_quiet (fail)
            go_wp2_with fail
            have HBQ : Hid (Below w.heap.size w (wr.drewN nq)) := below_drewN HB.out _
            have HXQ : Hid (Blk (wr.drewN nq) ob 53 [.int .i64 x.p, .int .i64 k, .int .i64 x.s, .slice (some ⟨x.wb, 0, none⟩) x.want.length x.want.length, .bool x.live, .int .i64 x.site, .int .i64 x.gone]) := HXR.out.below (below_drewN (Below.refl wr.heap.size wr) nq) hobr
            clear b0 b1 b3 b4 c2' c3' dk'
            generalize wr.drewN nq = wq at *
            have hobq := HXQ.out.lt
            refine (krefused_yes pb ph gc bb G R _ _ vF B (x.p + 16 * (m : Int)) 7 wq (HK.out.below HBQ.out) HS.out (by omega) (by decide) HREF.out).mono ?_
            rintro e w2 ⟨rfl, hb2⟩
            have HB2 : Hid (Below w.heap.size w w2) := HBQ.out.trans (hb2.mono HBQ.out.size)
            have HX2 := hide2 (HXQ.out.below hb2 hobq)
            clear hb2
            go_wp2
            go_roundw
            case rel => exact ⟨m + 1, by omega, by go_num, HB2.out, by rw [← hl]; exact HX2⟩
            case measure => simp [intOf]; omega
          | true =>
            have hlw : (x.want.length : Int) ≤ 16 * (m : Int) := by
              have : ¬ (16 * m : Int) < x.want.length := fun y => hin ⟨hl, y⟩
              omega
            rw [hl] at b4
            go_wp2_with fail
            go_quiet (fail)
            go_wp2_with fail
            have HBQ : Hid (Below w.heap.size w (wr.drewN nq)) := below_drewN HB.out _
            have HXQ : Hid (Blk (wr.drewN nq) ob 53 [.int .i64 x.p, .int .i64 k, .int .i64 x.s, .slice (some ⟨x.wb, 0, none⟩) x.want.length x.want.length, .bool x.live, .int .i64 x.site, .int .i64 x.gone]) := HXR.out.below (below_drewN (Below.refl wr.heap.size wr) nq) hobr
            clear b0 b1 b3 b4 c2' c3' dk'
            generalize wr.drewN nq = wq at *
            have hobq := HXQ.out.lt
            refine (krefused_yes pb ph gc bb G R _ _ vF B (x.p + 16 * (m : Int)) 7 wq (HK.out.below HBQ.out) HS.out (by omega) (by decide) HREF.out).mono ?_
            rintro e w2 ⟨rfl, hb2⟩
            have HB2 : Hid (Below w.heap.size w w2) := HBQ.out.trans (hb2.mono HBQ.out.size)
            have HX2 := hide2 (HXQ.out.below hb2 hobq)
            clear hb2
            go_wp2
            go_roundw
            case rel => exact ⟨m + 1, by omega, by go_num, HB2.out, by rw [← hl]; exact HX2⟩
            case measure => simp [intOf]; omega
    · go_wp2_with fail
      go_quiet (fail)
      go_wp2
      go_ret
      exact ⟨rfl, below_drewN HB.out _⟩
end Go.Proofs.Ytjikemhmnkckcaa
