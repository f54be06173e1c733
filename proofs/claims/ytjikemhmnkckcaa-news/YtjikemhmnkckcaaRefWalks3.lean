import Derived.Test.YtjikemhmnkckcaaRefWalks2
import Derived.Test.YtjikemhmnkckcaaConfWalks2
namespace Go.Proofs.Ytjikemhmnkckcaa
open Go.RowKit

/-- what the document's heap keeps: a valid configuration, and small sizes -/
structure ROk (R : RSt) : Prop where
  conf : Cf.Valid R.st R.rest R.cls
  size0 : ∀ i, 0 ≤ (R.log.getD i Ref.Ev.no).size
  size1 : ∀ i, (R.log.getD i Ref.Ev.no).size ≤ 8

set_option maxHeartbeats 1000000 in
theorem rtag_any (p : Nat) (vc vl vm : Value) (R : RSt) (addr : Int) (w : World) (h : RRep w p vc vl vm R) (ho : ROk R) :
    Calls Try.prog 17 #[.pointer (some ⟨p, 0, none⟩), .int .i64 addr] w fun e w' => e = .returned (.int .i64 (Cf.tag R.st R.cls R.log addr)) ∧ Below w.heap.size w w' := by
  have HR : Hid (RRep w p vc vl vm R) := h
  have HO : Hid (ROk R) := ho
  have hp := h.blk.lt
  have c0 := h.blk.cell (j := 0) rfl
  have c1 := h.blk.cell (j := 1) rfl
  have c2 := h.blk.cell (j := 2) rfl
  have c3 := h.blk.cell (j := 3) rfl
  have b0 := ho.conf.st0
  have b1 := ho.conf.st1
  obtain ⟨a, cap, rfl, hcr⟩ := CRow.of_row h.cls
  obtain ⟨al, capl, rfl, hcapl, hmaxl, hrow⟩ := row_open h.log
  unfold maxLen at hmaxl
  have HC : Hid (CRow w a cap R.cls) := hcr
  have HL : Hid (0 < R.log.length → ∃ g, al = some ⟨g, 0, none⟩ ∧ g < w.heap.size ∧ (∀ j u, (R.log.flatMap evCells)[j]? = some u → w.cell? ⟨g, j, none⟩ = some u) ∧ (∀ j, w.frozen? ⟨g, j, none⟩ = false)) := hrow
  have htag : Hid (Cf.tag R.st R.cls R.log addr = if 16 ≤ addr ∧ addr < 16 * (1 + R.st) then 0
    else if (Cf.slot R.st R.cls addr).1 < 0 then -1
    else if Ref.state R.log (Cf.slot R.st R.cls addr).1 (Cf.slot R.st R.cls addr).2 ≠ 3 then 15
    else if Cf.begin_ R.st R.cls (Cf.slot R.st R.cls addr).1.toNat (Cf.slot R.st R.cls addr).2 + 16 * (R.log.getD (Ref.given R.log (Cf.slot R.st R.cls addr).1 (Cf.slot R.st R.cls addr).2).toNat Ref.Ev.no).size ≤ addr then 15
    else (R.log.getD (Ref.given R.log (Cf.slot R.st R.cls addr).1 (Cf.slot R.st R.cls addr).2).toNat Ref.Ev.no).tag) := rfl
  clear h ho hcr hrow
  by_cases hs : 16 ≤ addr ∧ addr < 16 * (1 + R.st)
  · have hfin : Hid (Cf.tag R.st R.cls R.log addr = 0) := by show _ = _; rw [htag.out, if_pos hs]
    clear htag
    obtain ⟨s0, s1⟩ := hs
    go_enter Try.func17, Try.ntmps17
    go_wp2
    go_ret
    exact ⟨ret_int hfin.out.symm, Below.refl _ _⟩
  · have htag2 : Hid (Cf.tag R.st R.cls R.log addr = if (Cf.slot R.st R.cls addr).1 < 0 then -1
      else if Ref.state R.log (Cf.slot R.st R.cls addr).1 (Cf.slot R.st R.cls addr).2 ≠ 3 then 15
      else if Cf.begin_ R.st R.cls (Cf.slot R.st R.cls addr).1.toNat (Cf.slot R.st R.cls addr).2 + 16 * (R.log.getD (Ref.given R.log (Cf.slot R.st R.cls addr).1 (Cf.slot R.st R.cls addr).2).toNat Ref.Ev.no).size ≤ addr then 15
      else (R.log.getD (Ref.given R.log (Cf.slot R.st R.cls addr).1 (Cf.slot R.st R.cls addr).2).toNat Ref.Ev.no).tag) := by show _ = _; rw [htag.out, if_neg hs]
    clear htag
    rcases Cf.slot_bd R.st R.cls addr with hsl | ⟨k, s, hsl, hk, hs2, _⟩
    · have hfin : Hid (Cf.tag R.st R.cls R.log addr = -1) := by show _ = _; rw [htag2.out, hsl]; rfl
      have HS : Hid (Cf.slot R.st R.cls addr = (-1, -1)) := hsl
      clear htag2 hsl
      go_enter Try.func17, Try.ntmps17
      go_wp2_with (go_at_call 44; refine (slot_any R.st R.rest _ cap R.cls _ _ HO.out.conf HC.out).mono ?_; rw [HS.out]; rintro e1 w1 ⟨rfl, hb1⟩)
      all_goals
        go_ret
        exact ⟨ret_int hfin.out.symm, hb1⟩
    · rw [hsl] at htag2
      have htag3 : Hid (Cf.tag R.st R.cls R.log addr = if Ref.state R.log k s ≠ 3 then 15
        else if Cf.begin_ R.st R.cls k s + 16 * (R.log.getD (Ref.given R.log k s).toNat Ref.Ev.no).size ≤ addr then 15
        else (R.log.getD (Ref.given R.log k s).toNat Ref.Ev.no).tag) := by show _ = _; rw [htag2.out, if_neg (by simp)]; rfl
      have HS : Hid (Cf.slot R.st R.cls addr = ((k : Int), (s : Int))) := hsl
      have sl1 := HO.out.conf.s1 k hk
      clear htag2 hsl
      by_cases hst : Ref.state R.log k s = 3
      · have htag4 : Hid (Cf.tag R.st R.cls R.log addr = if Cf.begin_ R.st R.cls k s + 16 * (R.log.getD (Ref.given R.log k s).toNat Ref.Ev.no).size ≤ addr then 15
          else (R.log.getD (Ref.given R.log k s).toNat Ref.Ev.no).tag) := by show _ = _; rw [htag3.out, if_neg (by simp [hst])]
        have hgv : 0 ≤ Ref.given R.log k s := by
          unfold Ref.state at hst; split at hst
          · omega
          · omega
        have g2 := Ref.given_hi R.log k s
        have z0 := HO.out.size0 (Ref.given R.log k s).toNat
        have z1 := HO.out.size1 (Ref.given R.log k s).toNat
        have bb := Cf.begin_bd HO.out.conf k hk s (by omega) (by omega)
        obtain ⟨g, rfl, hgl, hcell, _⟩ := HL.out (by omega)
        obtain ⟨_, _, _, d3, d4, _⟩ := ev_cells hcell (Ref.given R.log k s).toNat (by omega)
        have HST : Hid (Ref.state R.log k s = 3) := hst
        have hq : Hid (R.log.getD (Ref.given R.log k s).toNat Ref.Ev.no = R.log.getD (Ref.given R.log k s).toNat Ref.Ev.no) := rfl
        generalize R.log.getD (Ref.given R.log k s).toNat Ref.Ev.no = ev at *
        clear htag3 hst hcell hq HL
        by_cases hbig : Cf.begin_ R.st R.cls k s + 16 * ev.size ≤ addr
        all_goals
          go_enter Try.func17, Try.ntmps17
          go_wp2_with (first
            | (go_at_call 44; refine (slot_any R.st R.rest _ cap R.cls _ _ HO.out.conf HC.out).mono ?_; rw [HS.out]; rintro e1 w1 ⟨rfl, hb1⟩)
            | (go_at_call 45; refine (state_any _ _ _ _ _ _ _ _ (HR.out.below hb1)).mono ?_; rw [HST.out]; rintro e1 w2 ⟨rfl, hb2'⟩; have hb2 := hb1.trans (hb2'.mono hb1.size); clear hb2')
            | (go_at_call 46; refine (given_any _ _ _ _ _ _ _ _ (HR.out.below hb2)).mono ?_; rintro e1 w3 ⟨rfl, hb3'⟩; have hb3 := hb2.trans (hb3'.mono hb2.size); clear hb3'; have q0 := (hb3.cell (p := ⟨p, 0, none⟩) hp).trans c0; have q1 := (hb3.cell (p := ⟨p, 1, none⟩) hp).trans c1; have q2 := (hb3.cell (p := ⟨p, 2, none⟩) hp).trans c2)
            | (go_at_call 47; refine (begin_any R.st R.rest _ cap R.cls _ _ _ HO.out.conf (HC.out.below hb3) (by omega) (by omega) (by omega) (by omega)).mono ?_; rw [Int.toNat_natCast]; rintro e1 w4 ⟨rfl, hb4'⟩; have hb4 := hb3.trans (hb4'.mono hb3.size); clear hb4'; have q3 := (hb4.cell (p := ⟨p, 3, none⟩) hp).trans c3; have r3 := (hb4.cell (p := ⟨g, (Ref.given R.log k s).toNat * 6 + 3, none⟩) hgl).trans d3; have r4 := (hb4.cell (p := ⟨g, (Ref.given R.log k s).toNat * 6 + 4, none⟩) hgl).trans d4))
          all_goals
            go_ret
            first
              | exact ⟨ret_int (by rw [htag4.out, if_pos hbig]), hb4⟩
              | exact ⟨ret_int (by rw [htag4.out, if_neg (by omega)]), hb4⟩
      · have hfin : Hid (Cf.tag R.st R.cls R.log addr = 15) := by show _ = _; rw [htag3.out, if_pos hst]
        have hne : (Ref.state R.log k s != 3) = true := by rw [bne_iff_ne]; exact hst
        clear htag3 hst HL
        go_enter Try.func17, Try.ntmps17
        go_wp2_with (first
          | (go_at_call 44; refine (slot_any R.st R.rest _ cap R.cls _ _ HO.out.conf HC.out).mono ?_; rw [HS.out]; rintro e1 w1 ⟨rfl, hb1⟩)
          | (go_at_call 45; refine (state_any _ _ _ _ _ _ _ _ (HR.out.below hb1)).mono ?_; rintro e1 w2 ⟨rfl, hb2'⟩; have hb2 := hb1.trans (hb2'.mono hb1.size); clear hb2'))
        all_goals
          go_ret
          exact ⟨ret_int hfin.out.symm, hb2⟩
end Go.Proofs.Ytjikemhmnkckcaa
