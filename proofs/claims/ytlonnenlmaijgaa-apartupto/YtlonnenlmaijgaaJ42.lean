import Derived.Test.YtlonnenlmaijgaaJ40
import Derived.Test.YtlonnenlmaijgaaJ41
import Derived.Deep.RegionHeld3
import Derived.Test.YtlonnenlmaijgaaJ39
/- The book: a block stands. -/
namespace Go.Proofs.Ytlonnenlmaijgaa
open Go.RowKit

/-- a live block stands: its length, its bytes -/
def Stands (R : RSt) (x : KBlk) : Prop := R.usable x.p = ((x.want.length : Int), 0) ∧ ∀ j : Nat, j < x.want.length → R.load (x.p + j) 1 = (x.want.getD j 0, 0)

set_option maxRecDepth 100000 in
set_option maxHeartbeats 3200000 in
theorem kstands_any (pb ph : Nat) (gc : Value) (bb : Nat) (G : GSt) (R : RSt) (vc vL vF : Value) (B : KSt) (i : Nat) (w : World) (h : KRep w pb ph gc bb G vc vL vF B) (hS : SimB G R) (hi : i < B.L.length) (hst : Stands R (B.L.getD i KBlk.no)) (hlen : (B.L.getD i KBlk.no).want.length ≤ 128) (p0 : 0 ≤ (B.L.getD i KBlk.no).p) (p1 : (B.L.getD i KBlk.no).p ≤ 2000000000000000000) :
    Calls Try.prog 23 #[.pointer (some ⟨pb, 0, none⟩), .int .i64 (i : Int)] w fun e w' => e = .returned (.bool true) ∧ Below w.heap.size w w' := by
  obtain ⟨al, cap, rfl, hcap, hmax, hrow⟩ := row_open h.L
  obtain ⟨g, rfl, hgl, hcell, hfrz⟩ := hrow (by omega)
  unfold maxLen at hmax
  have HK := hide2 h
  have HS := hide2 hS
  have hpb := h.blk.lt
  have c3 := h.blk.cell (j := 3) rfl
  have c4 := h.blk.cell (j := 4) rfl
  obtain ⟨d0, d1, d2, d3, d4, d5, d6⟩ := kblk_cells hcell i hi
  have hwant := hide2 (h.want i hi)
  have hwlt := (h.want i hi).lt
  have hiI : (i : Int) < (B.L.length : Int) := by omega
  have HG := hide2 h.heap
  generalize B.L.getD i KBlk.no = x at *
  have HU := hide2 hst.1
  have HL := hide2 hst.2
  clear h hS hrow hcell hfrz hst
  go_enter Try.func23, Try.ntmps23
  go_wp2_with fail
  obtain ⟨wa, hwa⟩ : ∃ wa, wa = w.alloc (.cells #[.int .i64 x.p, .int .i64 x.k, .int .i64 x.s, .slice (some ⟨x.wb, 0, none⟩) x.want.length x.want.length, .bool x.live, .int .i64 x.site, .int .i64 x.gone] 53) := ⟨_, rfl⟩
  rw [← hwa]
  have hba : Below w.heap.size w wa := by rw [hwa]; exact (Below.refl _ _).alloc (Nat.le_refl _) _
  have hsa : wa.heap.size = w.heap.size + 1 := by rw [hwa, World.size_alloc]
  have HX : Hid (Blk wa w.heap.size 53 [.int .i64 x.p, .int .i64 x.k, .int .i64 x.s, .slice (some ⟨x.wb, 0, none⟩) x.want.length x.want.length, .bool x.live, .int .i64 x.site, .int .i64 x.gone]) := by rw [hwa]; exact Blk.alloc _ _ _
  have b0 := HX.out.cell (j := 0) rfl
  have b3 := HX.out.cell (j := 3) rfl
  have c3a := (hba.cell (p := ⟨pb, 3, none⟩) hpb).trans c3
  have hob : w.heap.size < wa.heap.size := by omega
  have hpa : pb < wa.heap.size := by omega
  have HBA := hide2 hba
  clear hwa c3 c4 d0 d1 d2 d3 d4 d5 d6 hba hsa
  obtain ⟨ob, hobe⟩ : ∃ ob, ob = w.heap.size := ⟨_, rfl⟩
  rw [← hobe] at b0 b3 hob HX ⊢
  have HXO := hide2 hobe
  clear hobe
  go_region_held3 (fun w' => w'.cell? ⟨pb, 3, none⟩ = some (.pointer (some ⟨ph, 0, none⟩)) ∧ w'.cell? ⟨ob, 0, none⟩ = some (.int .i64 x.p)) (go_keep)
    (first | (go_at_call 52; refine (gusable_any ph gc bb G R x.p wa.drew ((HG.out.below HBA.out).kept (fun _ _ => rfl)) HS.out.sim (by omega)).mono ?_; rw [HU.out]; rintro e w1 ⟨rfl, hb1⟩; have c3' : w1.cell? ⟨pb, 3, none⟩ = some (.pointer (some ⟨ph, 0, none⟩)) := (hb1.cell (p := ⟨pb, 3, none⟩) hpa).trans c3a; have b0' : w1.cell? ⟨ob, 0, none⟩ = some (.int .i64 x.p) := (hb1.cell (p := ⟨ob, 0, none⟩) hob).trans b0; have HB1 : Hid (Below wa.heap.size wa w1) := ⟨hb1.os, hb1.tape, hb1.output, hb1.size, hb1.block⟩; clear hb1))
  have b3' := (HB1.out.cell (p := ⟨ob, 3, none⟩) hob).trans b3
  have hs1 := HB1.out.size
  have HBW : Hid (Below w.heap.size w w1) := HBA.out.trans (HB1.out.mono HBA.out.size)
  clear c3a b0 b3
  have hnn : ((x.want.length : Int) != (x.want.length : Int)) = false := by simp
  go_wp2
  go_loopw [8] (fun j wr => ∃ m : Nat, m ≤ x.want.length ∧ j = .int .i64 (m : Int) ∧ Below w.heap.size w wr ∧ wr.cell? ⟨ob, 0, none⟩ = some (.int .i64 x.p) ∧ wr.cell? ⟨ob, 3, none⟩ = some (.slice (some ⟨x.wb, 0, none⟩) x.want.length x.want.length) ∧ ob < wr.heap.size) (fun j _ => x.want.length - (intOf j).toNat)
  case atStart => exact ⟨0, by omega, rfl, HBW.out, b0', b3', by omega⟩
  case round =>
    obtain ⟨m, hm, rfl, hb, b0r, b3r, hobr⟩ := hrel
    have hpr : pb < wr.heap.size := Nat.lt_of_lt_of_le hpb hb.size
    have c3r : wr.cell? ⟨pb, 3, none⟩ = some (.pointer (some ⟨ph, 0, none⟩)) := (hb.cell (p := ⟨pb, 3, none⟩) hpb).trans (HK.out.blk.cell (j := 3) rfl)
    have HBR := hide2 hb
    clear b0' b3' c3' hb
    by_cases hlt : m < x.want.length
    · have hI : (m : Int) < (x.want.length : Int) := by omega
      have HLD := hide2 (HL.out m hlt)
      have HWM : Hid (∀ w9 : World, Below w.heap.size w w9 → w9.cell? ⟨x.wb, m, none⟩ = some (.int .i64 (x.want.getD m 0))) := fun w9 h9 => by
        rw [h9.cell (p := ⟨x.wb, m, none⟩) hwlt]
        refine hwant.out.cell ?_
        rw [List.getElem?_map, List.getElem?_eq_getElem hlt]
        simp [List.getD_eq_getElem?_getD, List.getElem?_eq_getElem hlt]
      have e1 : (x.want.getD m 0 != x.want.getD m 0) = false := by simp
      have m0 : (0 : Int) ≤ (m : Int) := by omega
      have hxm : x.p + (m : Int) ≤ 9223372036854775807 := by omega
      have hxw : IntKind.i64.wrap (x.p + (m : Int)) = x.p + (m : Int) := by rw [IntKind.wrap_i64]; omega
      generalize x.want.getD m 0 = wm at *
      go_wp2_with fail
      go_region_held3 (fun w' => w'.cell? ⟨pb, 3, none⟩ = some (.pointer (some ⟨ph, 0, none⟩)) ∧ w'.cell? ⟨ob, 0, none⟩ = some (.int .i64 x.p)) (go_keep)
        (first | (go_at_call 31; refine (gload_any ph gc bb G R (x.p + (m : Int)) 1 wr.drew ((HG.out.below HBR.out).kept (fun _ _ => rfl)) HS.out hxm).mono ?_; rw [HLD.out]; rintro e w2 ⟨rfl, hb2⟩; have c3' : w2.cell? ⟨pb, 3, none⟩ = some (.pointer (some ⟨ph, 0, none⟩)) := (hb2.cell (p := ⟨pb, 3, none⟩) hpr).trans c3r; have b0' : w2.cell? ⟨ob, 0, none⟩ = some (.int .i64 x.p) := (hb2.cell (p := ⟨ob, 0, none⟩) hobr).trans b0r; have HB2 : Hid (Below wr.heap.size wr w2) := ⟨hb2.os, hb2.tape, hb2.output, hb2.size, hb2.block⟩; clear hb2))
      have b3s := (HB2.out.cell (p := ⟨ob, 3, none⟩) hobr).trans b3r
      have HBN : Hid (Below w.heap.size w w2) := HBR.out.trans (HB2.out.mono HBR.out.size)
      have hwm := HWM.out w2 HBN.out
      have hs2 := HB2.out.size
      clear c3r b0r b3r
      go_wp2
      go_roundw
      case rel => exact ⟨m + 1, by omega, by go_num, HBN.out, b0', b3s, by omega⟩
      case measure => simp [intOf]; omega
    · obtain rfl : m = x.want.length := by omega
      go_wp2
      go_ret
      exact ⟨rfl, HBR.out⟩
end Go.Proofs.Ytlonnenlmaijgaa
/- The book against the heap. Plain mathematics. -/
namespace Go.Proofs.Ytlonnenlmaijgaa
open Go.RowKit

/-- a block that is live, by the heap -/
structure KLive (R : RSt) (x : KBlk) (k s : Nat) : Prop where
  ek : x.k = k
  es : x.s = s
  hk : k < R.cls.length
  hs : s < (Cf.sl R.cls k).toNat
  st : Ref.state R.log k s = 3
  p : x.p = Ref.last R.log k s * 72057594037927936 + Cf.begin_ R.st R.cls k s
  len : (x.want.length : Int) = 16 * (R.log.getD (Ref.given R.log k s).toNat Ref.Ev.no).size
  byte : ∀ t : Nat, t < x.want.length → x.want.getD t 0 = R.byte (Cf.begin_ R.st R.cls k s + t)

section
variable {G : GSt} {R : RSt} {x : KBlk} {k s : Nat}
theorem KLive.bd (h : KLive R x k s) (hs : SimB G R) : 1 ≤ Ref.last R.log k s ∧ Ref.last R.log k s ≤ 14 ∧ 32 ≤ Cf.begin_ R.st R.cls k s ∧ Cf.begin_ R.st R.cls k s ≤ 8640 ∧ x.want.length ≤ 128 ∧ 16 ≤ x.want.length ∧ (x.want.length : Int) ≤ 16 * Cf.gr R.cls k := by
  have h1 := hs.fits.tag k s (live_given h.st)
  have h2 := hs.fits.size k s (live_given h.st)
  have hv := hs.sim.rok.conf
  have h3 := Cf.begin_bd hv k h.hk s (by omega) (by have := hv.s1 k h.hk; have := h.hs; omega)
  have h4 := hv.g1 k h.hk
  have h5 := h.len
  omega
theorem KLive.at_ (h : KLive R x k s) (hs : SimB G R) (j : Nat) (hj : j < x.want.length) : (x.p + j) % 72057594037927936 = Cf.begin_ R.st R.cls k s + j ∧ (x.p + j) / 72057594037927936 = Ref.last R.log k s ∧ Ref.tameB (x.p + j) = true := by
  have h1 := h.bd hs
  have h2 := h.p
  refine ⟨by omega, by omega, (tame_iff _).2 ⟨by omega, by omega, by omega⟩⟩
theorem KLive.block (h : KLive R x k s) (hs : SimB G R) : Ref.block R.st R.cls R.log x.p = ((k : Int), (s : Int), 0) := by
  have h1 := h.bd hs
  have h2 := h.at_ hs 0 (by omega)
  simp only [Int.natCast_zero, Int.add_zero] at h2
  exact (block_iff hs.sim.rok.conf R.log x.p k s).2 ⟨h.hk, h.hs, h2.2.2, h2.1.symm, h2.2.1.symm, h.st⟩
theorem KLive.tag (h : KLive R x k s) (hs : SimB G R) (j : Nat) (hj : j < x.want.length) : R.tag (Cf.begin_ R.st R.cls k s + j) = Ref.last R.log k s := by
  have h5 := h.len
  exact tag_live hs.sim.rok.conf k s h.hk h.hs h.st _ (by omega) (by omega) (hs.fits.size k s (live_given h.st)).2
theorem KLive.access (h : KLive R x k s) (hs : SimB G R) (j : Nat) (hj : j < x.want.length) : (R.access (x.p + j) 1).1 = 0 := by
  have h1 := h.at_ hs j hj
  have h2 := h.tag hs j hj
  have h3 := h.bd hs
  unfold RSt.access
  rw [if_neg (by omega), if_neg (by omega), h1.2.2, if_pos rfl, h1.1, h1.2.1]
  show (Ref.accFrom R.tag (Ref.last R.log k s) (Cf.begin_ R.st R.cls k s + j) 1 0).1 = 0
  simp only [Ref.accFrom]
  rw [show Cf.begin_ R.st R.cls k s + (j : Int) + ((0 : Nat) : Int) = Cf.begin_ R.st R.cls k s + j by omega, h2, if_neg (by omega), if_neg (by omega)]
theorem KLive.stands (h : KLive R x k s) (hs : SimB G R) : Stands R x := by
  have hb := h.bd hs
  refine ⟨?_, fun j hj => ?_⟩
  · unfold RSt.usable
    rw [h.block hs, if_neg (by simp), h.len]
  · have h1 := h.at_ hs j hj
    have h2 := h.access hs j hj
    unfold RSt.load
    rw [if_neg (by decide), if_neg (by rw [h2]; simp), h1.1, h.byte j hj]
    have h3 := hs.marks.byte_bd (Cf.begin_ R.st R.cls k s + j)
    show (wrap64 (0 + wrap64 (R.byte (Cf.begin_ R.st R.cls k s + j + ((0 : Nat) : Int)) * 1)), (0 : Int)) = _
    rw [show Cf.begin_ R.st R.cls k s + (j : Int) + ((0 : Nat) : Int) = Cf.begin_ R.st R.cls k s + j by omega, wrap64_in (R.byte (Cf.begin_ R.st R.cls k s + j) * 1) (by omega) (by omega), wrap64_in _ (by omega) (by omega)]
    simp
end

structure KOk (B : KSt) (G : GSt) (R : RSt) : Prop where
  simb : SimB G R
  st : B.st = R.st
  rest : B.rest = R.rest
  cls : B.cls = R.cls
  rests : RestOk R B.F
  live : ∀ j, j < B.L.length → (B.L.getD j KBlk.no).live = true → ∃ k s : Nat, KLive R (B.L.getD j KBlk.no) k s
  uniq : ∀ i j, i < B.L.length → j < B.L.length → (B.L.getD i KBlk.no).live = true → (B.L.getD j KBlk.no).live = true → (B.L.getD i KBlk.no).k = (B.L.getD j KBlk.no).k → (B.L.getD i KBlk.no).s = (B.L.getD j KBlk.no).s → i = j
  cnt : ∀ k, k < R.cls.length → kliveN B.L k B.L.length = cntTo (fun s => decide (Ref.state R.log k s = 3)) (Cf.sl R.cls k).toNat

theorem rests_r {R : RSt} (hl : LogOk R) (k s : Nat) (h3 : Ref.state R.log k s ≠ 3) : Ref.rests R.log R.rest k s = decide (0 < R.r k s) := by
  unfold Ref.rests RSt.r
  rcases state_of R.log k s with x | x | x
  · rw [if_pos (hl.vir k s x.2), if_neg (by omega)]; rfl
  · omega
  · rw [if_neg (by omega), if_pos x.1]
    exact decide_eq_decide.2 (by omega)

section
variable {B : KSt} {G : GSt} {R : RSt}
/-- how many of each kind -/
theorem KOk.three (h : KOk B G R) (k : Nat) (hk : k < R.cls.length) : (kliveN B.L k B.L.length : Int) + kfreeN B.F B.rest k B.F.length + (cntTo (Ref.openB R.log R.rest k) (Cf.sl R.cls k).toNat : Int) = Cf.sl R.cls k := by
  have hv := h.simb.sim.rok.conf
  have hfb := kfreeN_bd B.F R.rest k B.F.length hv.re0
  have hsl := hv.s0 k hk
  obtain ⟨V, hV⟩ := Int.eq_ofNat_of_zero_le hv.re0
  obtain ⟨m, hm⟩ := Int.eq_ofNat_of_zero_le hfb.1
  have hc := h.rests.cnt k hk
  rw [hm, hV] at hc
  have hsum := cntTo_sum (fun s => R.r k s) (Cf.sl R.cls k).toNat V m (by omega) hc V (Nat.le_refl _)
  have hrest : cntTo (fun s => decide (0 < R.r k s)) (Cf.sl R.cls k).toNat = m := by
    rw [cntTo_congr _ (fun s => decide (0 < R.r k s ∧ R.r k s ≤ (V : Int))) _ (fun s _ => decide_eq_decide.2 (by have := r_bd hv.re0 k s; omega)), hsum]
    by_cases c : V - m < V
    · rw [if_pos c]; omega
    · rw [if_neg c]; omega
  have h3 := cntTo_three (fun s => decide (Ref.state R.log k s = 3)) (fun s => decide (0 < R.r k s)) (Ref.openB R.log R.rest k) (Cf.sl R.cls k).toNat (fun s _ => by
    by_cases e : Ref.state R.log k s = 3
    · rw [if_pos (decide_eq_true e), if_neg (by rw [decide_eq_true_eq, r_live (by omega)]; omega), if_neg (by unfold Ref.openB; simp [e])]
    · have hr := rests_r h.simb.sim.log k s e
      rw [if_neg (c := decide (Ref.state R.log k s = 3) = true) (by rw [decide_eq_true_eq]; exact e)]
      have ho : Ref.openB R.log R.rest k s = !decide (0 < R.r k s) := by
        unfold Ref.openB
        rw [hr]
        have : (Ref.state R.log k s != 3) = true := by simp [e]
        rw [this]; rfl
      rw [ho]
      cases decide (0 < R.r k s) <;> rfl)
  rw [h.cnt k hk, h.rest, hm]
  omega
/-- what must come is what comes -/
theorem KOk.expect (h : KOk B G R) (size draw : Int) : kexpect B size = (mOut R size draw).2 := by
  unfold kexpect
  rw [h.cls]
  rcases mOut_cases R h.simb.sim.rok size draw with ⟨hc, hm⟩ | ⟨k, h1, hk, hkl, hf, hm⟩ | ⟨k, s, h1, hk, hkl, hf, hs, hz, hm⟩
  · rw [hm, show gcls R.cls size = -1 from if_pos hc, if_pos (by decide)]
  · have hg : gcls R.cls size = (k : Int) := by unfold gcls; rw [if_neg (by omega), hk]
    rw [hm, hg, if_neg (by omega), Int.toNat_natCast]
    have h3 := h.three k hkl
    have hno : cntTo (Ref.openB R.log R.rest k) (Cf.sl R.cls k).toNat = 0 := cntTo_none _ _ fun s hs => by
      have hlo := Ref.firstFrom_lo (Ref.openB R.log R.rest k) (Cf.sl R.cls k).toNat 0
      change -1 ≤ Ref.first R.log R.rest R.cls k at hlo
      exact Ref.firstFrom_no (Ref.openB R.log R.rest k) (Cf.sl R.cls k).toNat 0 (by change Ref.first R.log R.rest R.cls k = -1; omega) s (by omega) (by omega)
    have : kfull B k = true := by
      unfold kfull
      rw [h.cls]
      exact decide_eq_true (by omega)
    rw [this]; rfl
  · have hg : gcls R.cls size = (k : Int) := by unfold gcls; rw [if_neg (by omega), hk]
    rw [hm, hg, if_neg (by omega), Int.toNat_natCast]
    have h3 := h.three k hkl
    have hat := Ref.firstFrom_at (Ref.openB R.log R.rest k) (Cf.sl R.cls k).toNat 0 (by change 0 ≤ Ref.first R.log R.rest R.cls k; omega)
    have h2 := hat.2
    change Ref.openB R.log R.rest k (Ref.first R.log R.rest R.cls k).toNat = true at h2
    rw [hf, Int.toNat_natCast] at h2
    have hpos := cntTo_some _ _ s hs h2
    have : kfull B k = false := by
      unfold kfull
      rw [h.cls]
      exact decide_eq_false (by omega)
    rw [this]; rfl

/-- the slot that is chosen: by the book no block is live in it, and it doesn't rest -/
theorem KOk.chosen (h : KOk B G R) (k s : Nat) (ho : Ref.openB R.log R.rest k s = true) : klive B.L k s = false ∧ krests B.F B.rest k s = false ∧ R.r k s = 0 ∧ Ref.state R.log k s ≠ 3 := by
  have h3 : Ref.state R.log k s ≠ 3 := fun e => by unfold Ref.openB at ho; simp [e] at ho
  have hr : R.r k s = 0 := by
    have := r_bd (R := R) h.simb.sim.rok.conf.re0 k s
    have hx := rests_r h.simb.sim.log k s h3
    unfold Ref.openB at ho
    rw [hx] at ho
    simp at ho
    omega
  refine ⟨?_, ?_, hr, h3⟩
  · have aux : ∀ n, n ≤ B.L.length → kliveTo B.L k s n = false := by
      intro n
      induction n with
      | zero => intro _; rfl
      | succ n ih =>
        intro hn
        simp only [kliveTo]
        rw [ih (by omega), Bool.false_or]
        cases e : ((B.L.getD n KBlk.no).live && (B.L.getD n KBlk.no).k == (k : Int) && (B.L.getD n KBlk.no).s == (s : Int))
        · rfl
        · exfalso
          simp only [Bool.and_eq_true, beq_iff_eq] at e
          obtain ⟨k', s', hl⟩ := h.live n (by omega) e.1.1
          have e1 := hl.ek
          have e2 := hl.es
          rw [e.1.2] at e1
          rw [e.2] at e2
          obtain rfl : k = k' := by omega
          obtain rfl : s = s' := by omega
          exact h3 hl.st
    exact aux B.L.length (Nat.le_refl _)
  · cases e : krests B.F B.rest k s
    · rfl
    · rw [h.rest] at e
      have := h.rests.look k s 0 (by omega) h3 e
      omega
end
end Go.Proofs.Ytlonnenlmaijgaa
