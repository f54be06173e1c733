import Derived.Test.YtjikemhmnkckcaaJ52
import Derived.Deep.CutRange
/- Named: gone. -/
namespace Go.Proofs.Ytjikemhmnkckcaa
open Go.RowKit
attribute [local go_sem ↓] Go.wp_at_zero Go.wp_at_succ

theorem blk_set10 {w : World} {b : Nat} {t : TypeId} {r : Rpt} {v : Value} (h : Blk w b t (rptCells r v)) (r' : Rpt) (v' : Value) :
    Blk ((((((((((w.setCell ⟨b, 0, none⟩ (.int .i64 r'.err)).setCell ⟨b, 1, none⟩ (.int .i64 r'.addr)).setCell ⟨b, 2, none⟩ (.int .i64 r'.want)).setCell ⟨b, 3, none⟩ (.int .i64 r'.found)).setCell ⟨b, 4, none⟩ (.int .i64 r'.state)).setCell ⟨b, 5, none⟩ (.int .i64 r'.cls)).setCell ⟨b, 6, none⟩ (.int .i64 r'.slot)).setCell ⟨b, 7, none⟩ (.int .i64 r'.alloc)).setCell ⟨b, 8, none⟩ (.int .i64 r'.gone)).setCell ⟨b, 9, none⟩ v') b t (rptCells r' v') :=
  ((((((((((h.setCell 0 (.int .i64 r'.err)).setCell 1 (.int .i64 r'.addr)).setCell 2 (.int .i64 r'.want)).setCell 3 (.int .i64 r'.found)).setCell 4 (.int .i64 r'.state)).setCell 5 (.int .i64 r'.cls)).setCell 6 (.int .i64 r'.slot)).setCell 7 (.int .i64 r'.alloc)).setCell 8 (.int .i64 r'.gone)).setCell 9 v')

set_option maxRecDepth 100000 in
set_option maxHeartbeats 3200000 in
theorem kgone_any (pb ph : Nat) (gc : Value) (bb : Nat) (G : GSt) (R : RSt) (vc vL vF : Value) (B : KSt) (i : Nat) (w : World) (h : KRep w pb ph gc bb G vc vL vF B) (hok : KOk B G R) (hi : i < B.L.length) (hz : klater B.L i = 0) (hl : (B.L.getD i KBlk.no).live = false) :
    Calls Try.prog 34 #[.pointer (some ⟨pb, 0, none⟩), .int .i64 (i : Int)] w fun e w' => e = .returned (.bool true) ∧ Below w.heap.size w w' := by
  obtain ⟨k, s, t, hh⟩ := hok.had i hi
  rw [hz] at hh
  have hpd := hh.pbd hok.simb
  have hbd := hh.bd hok.simb
  have ht0 := hh.t0
  have ht1 := hh.t1
  have GE := hide2 (hh.gone_explain hok hl)
  have GB := hide2 (hh.gone_blame hok hl)
  have HTOLD : Hid (∀ w2, KRep w2 pb ph gc bb G vc vL vF B → Calls Try.prog 35 #[.pointer (some ⟨pb, 0, none⟩), .int .i64 (i : Int), .int .i64 (B.L.getD i KBlk.no).p, .int .i64 (B.L.getD i KBlk.no).s] w2 fun e w' => e = .returned (.bool true) ∧ Below w2.heap.size w2 w') := fun w2 hk2 => by
    have hp := hh.p
    refine ktold_any pb ph gc bb G R vc vL vF B i _ (Cf.begin_ R.st R.cls k s) t _ w2 hk2 hok.simb.sim hi (by omega) (by omega) (by omega) (by omega) (by rw [hp]; omega) (by rw [hp]; omega) ?_
    have := hh.told hok (fun y => by rw [hl] at y; cases y) s hh.hs (.inr (.inl rfl)) (fun _ => hl)
    rw [← hp, ← hh.ek] at this
    rw [hh.es]
    exact this
  obtain ⟨al, cap, rfl, hcap, hmax, hrow⟩ := row_open h.L
  obtain ⟨g, rfl, hgl, hcell, hfrz⟩ := hrow (by omega)
  unfold maxLen at hmax
  have HK := hide2 h
  have HS := hide2 hok.simb.sim
  have hpb := h.blk.lt
  have c3 := h.blk.cell (j := 3) rfl
  have c4 := h.blk.cell (j := 4) rfl
  obtain ⟨d0, d1, d2, d3, d4, d5, d6⟩ := kblk_cells hcell i hi
  have hiI : (i : Int) < (B.L.length : Int) := by omega
  have HG := hide2 h.heap
  generalize B.L.getD i KBlk.no = x at *
  clear h hok hrow hcell hfrz hh hz hl hbd
  go_enter Try.func34, Try.ntmps34
  go_wp2_with fail
  obtain ⟨wa, hwa⟩ : ∃ wa, wa = w.alloc (.cells #[.int .i64 x.p, .int .i64 x.k, .int .i64 x.s, .slice (some ⟨x.wb, 0, none⟩) x.want.length x.want.length, .bool x.live, .int .i64 x.site, .int .i64 x.gone] 53) := ⟨_, rfl⟩
  rw [← hwa]
  have hba : Below w.heap.size w wa := by rw [hwa]; exact (Below.refl _ _).alloc (Nat.le_refl _) _
  have HX : Hid (Blk wa w.heap.size 53 [.int .i64 x.p, .int .i64 x.k, .int .i64 x.s, .slice (some ⟨x.wb, 0, none⟩) x.want.length x.want.length, .bool x.live, .int .i64 x.site, .int .i64 x.gone]) := by rw [hwa]; exact Blk.alloc _ _ _
  have HBA := hide2 hba
  obtain ⟨ob, hobe⟩ : ∃ ob, ob = w.heap.size := ⟨_, rfl⟩
  rw [← hobe] at HX ⊢
  have hob := HX.out.lt
  have b0 := HX.out.cell (j := 0) rfl
  have c3a := (hba.cell (p := ⟨pb, 3, none⟩) hpb).trans c3
  have hpa : pb < wa.heap.size := Nat.lt_of_lt_of_le hpb hba.size
  obtain ⟨ge, hge⟩ : ∃ ge, gexplain G R x.p 1 = ge := ⟨_, rfl⟩
  obtain ⟨gb, hgb⟩ : ∃ gb, gblame G R x.p = gb := ⟨_, rfl⟩
  have HGE := hide2 hge
  have HGB := hide2 hgb
  rw [hge] at GE
  rw [hgb] at GB
  clear hwa c3 c4 d0 d1 d2 d3 d4 d5 d6 hba hobe hge hgb
  go_cut [6] from 18 (fun s6 w' => ∃ rb v, s6 = .pointer (some ⟨rb, 0, none⟩) ∧ Hid (Blk w' rb 64 (rptCells ge v)) ∧ Hid (Below wa.heap.size wa w'))
  case first =>
    have hn3 := World.new_ne wa ⟨pb, 3, none⟩ c3a
    have hn4 := World.new_ne wa ⟨ob, 0, none⟩ b0
    go_region_held3 (fun w' => w'.cell? ⟨pb, 3, none⟩ = some (.pointer (some ⟨ph, 0, none⟩)) ∧ w'.cell? ⟨ob, 0, none⟩ = some (.int .i64 x.p)) (go_keep)
      (first
        | (go_at_call 73; refine (gexplain_any ph gc bb G R x.p 1 wa.drew ((HG.out.below HBA.out).kept (fun _ _ => rfl)) HS.out (by omega)).mono ?_; rw [HGE.out]; rintro e1 w1 ⟨v, rfl, hn⟩; obtain ⟨na, ncap, hv, -, -, -⟩ := row_open hn.row; subst hv; have HB1 : Hid (Below wa.heap.size wa w1) := ⟨hn.below.os, hn.below.tape, hn.below.output, hn.below.size, hn.below.block⟩; have c3' : w1.cell? ⟨pb, 3, none⟩ = some (.pointer (some ⟨ph, 0, none⟩)) := (HB1.out.cell (p := ⟨pb, 3, none⟩) hpa).trans c3a; have b0' : w1.cell? ⟨ob, 0, none⟩ = some (.int .i64 x.p) := (HB1.out.cell (p := ⟨ob, 0, none⟩) hob).trans b0; have hn1 := World.new_ne w1 ⟨pb, 3, none⟩ c3'; have hn2 := World.new_ne w1 ⟨ob, 0, none⟩ b0'; unfold rptV rptCells; clear hn)
        | (go_at_call 73; refine (gexplain_any ph gc bb G R x.p 1 (wa.alloc (.cells #[.int .i64 0, .int .i64 0, .int .i64 0, .int .i64 0, .int .i64 0, .int .i64 0, .int .i64 0, .int .i64 0, .int .i64 0, .slice none 0 0] 64)).drew (((HG.out.below HBA.out).below ((Below.refl _ _).alloc (Nat.le_refl _) _)).kept (fun _ _ => rfl)) HS.out (by omega)).mono ?_; rw [HGE.out]; rintro e1 w1 ⟨v, rfl, hn⟩; obtain ⟨na, ncap, hv, -, -, -⟩ := row_open hn.row; subst hv; have hB2 : Below (wa.heap.size + 1) (wa.alloc (.cells (rptCells (Rpt.only 0) (.slice none 0 0)).toArray 64)) w1 := ⟨hn.below.os, hn.below.tape, hn.below.output, by have := hn.below.size; simpa using this, fun b hb => hn.below.block b (by simpa using hb)⟩; have HB1 : Hid (Below wa.heap.size wa w1) := ((Below.refl _ _).alloc (Nat.le_refl _) _).trans (hB2.mono (by omega)); have HRZ : Hid (Blk w1 wa.heap.size 64 (rptCells (Rpt.only 0) (.slice none 0 0))) := (Blk.alloc wa 64 (rptCells (Rpt.only 0) (.slice none 0 0))).below hB2 (by omega); have rz0 := HRZ.out.cell (j := 0) rfl; have rz1 := HRZ.out.cell (j := 1) rfl; have rz2 := HRZ.out.cell (j := 2) rfl; have rz3 := HRZ.out.cell (j := 3) rfl; have rz4 := HRZ.out.cell (j := 4) rfl; have rz5 := HRZ.out.cell (j := 5) rfl; have rz6 := HRZ.out.cell (j := 6) rfl; have rz7 := HRZ.out.cell (j := 7) rfl; have rz8 := HRZ.out.cell (j := 8) rfl; have rz9 := HRZ.out.cell (j := 9) rfl; have rzf0 := HRZ.out.frozen 0; have rzf1 := HRZ.out.frozen 1; have rzf2 := HRZ.out.frozen 2; have rzf3 := HRZ.out.frozen 3; have rzf4 := HRZ.out.frozen 4; have rzf5 := HRZ.out.frozen 5; have rzf6 := HRZ.out.frozen 6; have rzf7 := HRZ.out.frozen 7; have rzf8 := HRZ.out.frozen 8; have rzf9 := HRZ.out.frozen 9; have hrzl := HRZ.out.lt; have c3' : w1.cell? ⟨pb, 3, none⟩ = some (.pointer (some ⟨ph, 0, none⟩)) := (HB1.out.cell (p := ⟨pb, 3, none⟩) hpa).trans c3a; have b0' : w1.cell? ⟨ob, 0, none⟩ = some (.int .i64 x.p) := (HB1.out.cell (p := ⟨ob, 0, none⟩) hob).trans b0; have hn1 := World.new_ne w1 ⟨pb, 3, none⟩ c3'; have hn2 := World.new_ne w1 ⟨ob, 0, none⟩ b0'; unfold rptV rptCells; clear hn hB2))
    · go_wp2
      go_meet
      case rel => exact ⟨w1.heap.size, .slice na ge.near.length ncap, rfl, Blk.alloc w1 64 (rptCells ge (.slice na ge.near.length ncap)), HB1.out.alloc HB1.out.size _⟩
    · go_wp2
      go_meet
      case rel => exact ⟨wa.heap.size, .slice na ge.near.length ncap, rfl, blk_set10 HRZ.out ge (.slice na ge.near.length ncap), below_set10 HB1.out (Nat.le_refl _) _ _ _ _ _ _ _ _ _ _⟩
  case rest =>
    obtain ⟨rb, vr, rfl, HRC, HBW⟩ := hcut
    have HBC : Hid (Below w.heap.size w wc) := HBA.out.trans (HBW.out.mono HBA.out.size)
    have HXC := hide2 (HX.out.below HBW.out hob)
    have hoc := HXC.out.lt
    have hpc : pb < wc.heap.size := Nat.lt_of_lt_of_le hpa HBW.out.size
    have c3c := (HBW.out.cell (p := ⟨pb, 3, none⟩) hpa).trans c3a
    have b0c := HXC.out.cell (j := 0) rfl
    have hrc := HRC.out.lt
    clear b0 c3a HX HBW hpa hob
    generalize wc = w5 at *
    go_upto_region 3 with (fail)
    go_cut [7] from 18 (fun s7 w' => ∃ fb v, s7 = .pointer (some ⟨fb, 0, none⟩) ∧ Hid (Blk w' fb 64 (rptCells gb v)) ∧ Hid (Below w5.heap.size w5 w'))
    case first =>
      have hn3 := World.new_ne w5 ⟨pb, 3, none⟩ c3c
      have hn4 := World.new_ne w5 ⟨ob, 0, none⟩ b0c
      go_region_held3 (fun w' => w'.cell? ⟨pb, 3, none⟩ = some (.pointer (some ⟨ph, 0, none⟩)) ∧ w'.cell? ⟨ob, 0, none⟩ = some (.int .i64 x.p)) (go_keep)
        (first
          | (go_at_call 33; refine (gblame_any ph gc bb G R x.p w5.drew ((HG.out.below HBC.out).kept (fun _ _ => rfl)) HS.out (by omega)).mono ?_; rw [HGB.out]; rintro e1 w1 ⟨v, rfl, hn⟩; obtain ⟨na, ncap, hv, -, -, -⟩ := row_open hn.row; subst hv; have HB1 : Hid (Below w5.heap.size w5 w1) := ⟨hn.below.os, hn.below.tape, hn.below.output, hn.below.size, hn.below.block⟩; have c3' : w1.cell? ⟨pb, 3, none⟩ = some (.pointer (some ⟨ph, 0, none⟩)) := (HB1.out.cell (p := ⟨pb, 3, none⟩) hpc).trans c3c; have b0' : w1.cell? ⟨ob, 0, none⟩ = some (.int .i64 x.p) := (HB1.out.cell (p := ⟨ob, 0, none⟩) hoc).trans b0c; have hn1 := World.new_ne w1 ⟨pb, 3, none⟩ c3'; have hn2 := World.new_ne w1 ⟨ob, 0, none⟩ b0'; unfold rptV rptCells; clear hn)
          | (go_at_call 33; refine (gblame_any ph gc bb G R x.p (w5.alloc (.cells #[.int .i64 0, .int .i64 0, .int .i64 0, .int .i64 0, .int .i64 0, .int .i64 0, .int .i64 0, .int .i64 0, .int .i64 0, .slice none 0 0] 64)).drew (((HG.out.below HBC.out).below ((Below.refl _ _).alloc (Nat.le_refl _) _)).kept (fun _ _ => rfl)) HS.out (by omega)).mono ?_; rw [HGB.out]; rintro e1 w1 ⟨v, rfl, hn⟩; obtain ⟨na, ncap, hv, -, -, -⟩ := row_open hn.row; subst hv; have hB2 : Below (w5.heap.size + 1) (w5.alloc (.cells (rptCells (Rpt.only 0) (.slice none 0 0)).toArray 64)) w1 := ⟨hn.below.os, hn.below.tape, hn.below.output, by have := hn.below.size; simpa using this, fun b hb => hn.below.block b (by simpa using hb)⟩; have HB1 : Hid (Below w5.heap.size w5 w1) := ((Below.refl _ _).alloc (Nat.le_refl _) _).trans (hB2.mono (by omega)); have HRZ : Hid (Blk w1 w5.heap.size 64 (rptCells (Rpt.only 0) (.slice none 0 0))) := (Blk.alloc w5 64 (rptCells (Rpt.only 0) (.slice none 0 0))).below hB2 (by omega); have rz0 := HRZ.out.cell (j := 0) rfl; have rz1 := HRZ.out.cell (j := 1) rfl; have rz2 := HRZ.out.cell (j := 2) rfl; have rz3 := HRZ.out.cell (j := 3) rfl; have rz4 := HRZ.out.cell (j := 4) rfl; have rz5 := HRZ.out.cell (j := 5) rfl; have rz6 := HRZ.out.cell (j := 6) rfl; have rz7 := HRZ.out.cell (j := 7) rfl; have rz8 := HRZ.out.cell (j := 8) rfl; have rz9 := HRZ.out.cell (j := 9) rfl; have rzf0 := HRZ.out.frozen 0; have rzf1 := HRZ.out.frozen 1; have rzf2 := HRZ.out.frozen 2; have rzf3 := HRZ.out.frozen 3; have rzf4 := HRZ.out.frozen 4; have rzf5 := HRZ.out.frozen 5; have rzf6 := HRZ.out.frozen 6; have rzf7 := HRZ.out.frozen 7; have rzf8 := HRZ.out.frozen 8; have rzf9 := HRZ.out.frozen 9; have hrzl := HRZ.out.lt; have c3' : w1.cell? ⟨pb, 3, none⟩ = some (.pointer (some ⟨ph, 0, none⟩)) := (HB1.out.cell (p := ⟨pb, 3, none⟩) hpc).trans c3c; have b0' : w1.cell? ⟨ob, 0, none⟩ = some (.int .i64 x.p) := (HB1.out.cell (p := ⟨ob, 0, none⟩) hoc).trans b0c; have hn1 := World.new_ne w1 ⟨pb, 3, none⟩ c3'; have hn2 := World.new_ne w1 ⟨ob, 0, none⟩ b0'; unfold rptV rptCells; clear hn hB2))
      · go_wp2
        go_meet
        case rel => exact ⟨w1.heap.size, .slice na gb.near.length ncap, rfl, Blk.alloc w1 64 (rptCells gb (.slice na gb.near.length ncap)), HB1.out.alloc HB1.out.size _⟩
      · go_wp2
        go_meet
        case rel => exact ⟨w5.heap.size, .slice na gb.near.length ncap, rfl, blk_set10 HRZ.out gb (.slice na gb.near.length ncap), below_set10 HB1.out (Nat.le_refl _) _ _ _ _ _ _ _ _ _ _⟩
    case rest =>
      obtain ⟨fb, vf, rfl, HFC, HBW⟩ := hcut
      have HBD : Hid (Below w.heap.size w wc) := HBC.out.trans (HBW.out.mono HBC.out.size)
      have HXD := hide2 (HXC.out.below HBW.out hoc)
      have HRD := hide2 (HRC.out.below HBW.out hrc)
      have y5 := HXD.out.cell (j := 5) rfl
      have y6 := HXD.out.cell (j := 6) rfl
      have y0 := HXD.out.cell (j := 0) rfl
      have y2 := HXD.out.cell (j := 2) rfl
      have r3 := HRD.out.cell (j := 3) rfl
      have r4 := HRD.out.cell (j := 4) rfl
      have r7 := HRD.out.cell (j := 7) rfl
      have r8 := HRD.out.cell (j := 8) rfl
      have f0 := HFC.out.cell (j := 0) rfl
      have f4 := HFC.out.cell (j := 4) rfl
      have f7 := HFC.out.cell (j := 7) rfl
      have f8 := HFC.out.cell (j := 8) rfl
      have hod := HXD.out.lt
      have hrd := HRD.out.lt
      have hfd := HFC.out.lt
      rw [GE.out.1] at r4
      rw [GE.out.2.1] at r7
      rw [GE.out.2.2.1] at r8
      rw [GE.out.2.2.2] at r3
      rw [GB.out.1] at f4
      rw [GB.out.2.1] at f7
      rw [GB.out.2.2.1] at f8
      rw [GB.out.2.2.2] at f0
      clear HXC HRC HBW b0c c3c hoc hrc hpc
      go_wp2_with fail
      refine (HTOLD.out wc (HK.out.below HBD.out)).mono ?_
      rintro e9 w9 ⟨rfl, hb9⟩
      have HB9 : Hid (Below w.heap.size w w9) := HBD.out.trans (hb9.mono HBD.out.size)
      clear hb9 y5 y6 y0 y2 r3 r4 r7 r8 f0 f4 f7 f8
      go_wp2
      go_ret
      exact ⟨by simp, HB9.out⟩
end Go.Proofs.Ytjikemhmnkckcaa
/- Named: of the slots beside. -/
namespace Go.Proofs.Ytjikemhmnkckcaa
open Go.RowKit

section
variable {pb ph : Nat} {gc : Value} {bb : Nat} {G : GSt} {R : RSt} {vc vL vF : Value} {B : KSt} {i k s : Nat} {t : Int} {w : World}
theorem KOk.liveAt (hok : KOk B G R) (hi : i < B.L.length) {n : Nat} (hh : KHad R (B.L.getD i KBlk.no) n k s t) (hl : (B.L.getD i KBlk.no).live = true) : Ref.state R.log k s = 3 := by
  obtain ⟨k2, s2, hl2⟩ := hok.live i hi hl
  have a1 := hl2.ek
  have a2 := hl2.es
  rw [hh.ek] at a1
  rw [hh.es] at a2
  obtain rfl : k = k2 := by omega
  obtain rfl : s = s2 := by omega
  exact hl2.st
theorem ktold_below (h : KRep w pb ph gc bb G vc vL vF B) (hok : KOk B G R) (hi : i < B.L.length) (hh : KHad R (B.L.getD i KBlk.no) 0 k s t) (hs : 1 ≤ s) :
    Calls Try.prog 35 #[.pointer (some ⟨pb, 0, none⟩), .int .i64 (i : Int), .int .i64 ((B.L.getD i KBlk.no).p - 16 * Cf.gr R.cls k), .int .i64 ((s : Int) - 1)] w fun e w' => e = .returned (.bool true) ∧ Below w.heap.size w w' := by
  have hp := hh.p
  have hpd := hh.pbd hok.simb
  have hbd := hh.bd hok.simb
  have ht0 := hh.t0
  have ht1 := hh.t1
  have hsl := hh.hs
  obtain ⟨s', rfl⟩ : ∃ s', s = s' + 1 := ⟨s - 1, by omega⟩
  have hbn := begin_next R.st R.cls k s'
  have hb' := Cf.begin_bd hok.simb.sim.rok.conf k hh.hk s' (by omega) (by have := hok.simb.sim.rok.conf.s1 k hh.hk; omega)
  rw [show ((s' + 1 : Nat) : Int) = (s' : Int) + 1 by omega] at hp hbd
  have e : (B.L.getD i KBlk.no).p - 16 * Cf.gr R.cls k = t * 72057594037927936 + Cf.begin_ R.st R.cls k s' := by rw [hp]; omega
  rw [e, show ((s' + 1 : Nat) : Int) - 1 = (s' : Int) by omega]
  refine ktold_any pb ph gc bb G R vc vL vF B i _ (Cf.begin_ R.st R.cls k s') t (s' : Int) w h hok.simb.sim hi (by omega) (by omega) (by omega) (by omega) (by omega) (by rw [hp]; omega) ?_
  rw [hh.ek]
  exact hh.told hok (hok.liveAt hi hh) s' (by omega) (.inr (.inr (by omega))) (fun y => by omega)
theorem ktold_above (h : KRep w pb ph gc bb G vc vL vF B) (hok : KOk B G R) (hi : i < B.L.length) (hh : KHad R (B.L.getD i KBlk.no) 0 k s t) (hs : s + 1 < (Cf.sl R.cls k).toNat) :
    Calls Try.prog 35 #[.pointer (some ⟨pb, 0, none⟩), .int .i64 (i : Int), .int .i64 ((B.L.getD i KBlk.no).p + 16 * Cf.gr R.cls k), .int .i64 ((s : Int) + 1)] w fun e w' => e = .returned (.bool true) ∧ Below w.heap.size w w' := by
  have hp := hh.p
  have hpd := hh.pbd hok.simb
  have hbd := hh.bd hok.simb
  have ht0 := hh.t0
  have ht1 := hh.t1
  have hbn := begin_next R.st R.cls k s
  have e : (B.L.getD i KBlk.no).p + 16 * Cf.gr R.cls k = t * 72057594037927936 + Cf.begin_ R.st R.cls k ((s + 1 : Nat) : Int) := by rw [hp, show ((s + 1 : Nat) : Int) = (s : Int) + 1 by omega]; omega
  have hb' : Cf.begin_ R.st R.cls k ((s + 1 : Nat) : Int) = Cf.begin_ R.st R.cls k s + 16 * Cf.gr R.cls k := by rw [show ((s + 1 : Nat) : Int) = (s : Int) + 1 by omega]; exact hbn
  rw [e, show (s : Int) + 1 = ((s + 1 : Nat) : Int) by omega]
  refine ktold_any pb ph gc bb G R vc vL vF B i _ (Cf.begin_ R.st R.cls k ((s + 1 : Nat) : Int)) t ((s + 1 : Nat) : Int) w h hok.simb.sim hi (by omega) (by omega) (by omega) (by omega) (by omega) (by rw [hp]; omega) ?_
  rw [hh.ek]
  exact hh.told hok (hok.liveAt hi hh) (s + 1) hs (.inl (by omega)) (fun y => by omega)
end
end Go.Proofs.Ytjikemhmnkckcaa
