import Derived.Test.YtjikemhmnkckcaaJ48
import Derived.Test.YtjikemhmnkckcaaJ53
import Derived.Deep.CutRange
/- Named. -/
namespace Go.Proofs.Ytjikemhmnkckcaa
open Go.RowKit

set_option maxRecDepth 100000 in
set_option maxHeartbeats 3200000 in
theorem named_any (st rest : Int) (a : Option Addr) (cap : Nat) (cls : List (Int × Int)) (ta : Option Addr) (tlen tcap : Nat) (u : Nat → Nat → Int) (w : World) (h : CRow w a cap cls) (b0 : -9223372036854775808 ≤ st) (b1 : st ≤ 9223372036854775807) (b2 : -9223372036854775808 ≤ rest) (b3 : rest ≤ 9223372036854775807) (hs : TRow w ta tlen tcap u) (hl : tlen ≤ 1048576) :
    Calls Try.prog 14 #[.agg #[.int .i64 st, .int .i64 rest, .slice a cls.length cap], .slice ta tlen tcap] w fun e w' => e = .returned (.bool true) ∧ Below w.heap.size w w' := by
  have HC := hide2 h
  have HS := hide2 hs
  have HBB := hide2 (And.intro (And.intro b0 b1) (And.intro b2 b3))
  clear h hs b0 b1 b2 b3
  go_enter Try.func14, Try.ntmps14
  go_wp2_with fail
  obtain ⟨wa, hwa⟩ : ∃ wa, wa = w.alloc (.cells #[.int .i64 st, .int .i64 rest, .slice a cls.length cap] 24) := ⟨_, rfl⟩
  rw [← hwa]
  have HBA : Hid (Below w.heap.size w wa) := by show Below _ _ _; rw [hwa]; exact (Below.refl _ _).alloc (Nat.le_refl _) _
  clear hwa
  refine (kopen_any st rest a cap cls wa (HC.out.below HBA.out) HBB.out.1.1 HBB.out.1.2 HBB.out.2.1 HBB.out.2.2).mono ?_
  rintro e w1 ⟨pb, rfl, hn⟩
  have HN := hide2 hn
  clear hn
  go_wp2_with fail
  refine (kplays_any wa pb ta tlen tcap u false w1 HN.out (HS.out.below HBA.out) hl).mono ?_
  rintro e w2 ⟨rfl, hi⟩
  have HBL : Hid (Below w.heap.size w w2) := HBA.out.trans (hi.bel.mono HBA.out.size)
  obtain ⟨ph, gc, bb, G, R, vc, vL, vF, B, hK, hok, hL, -, -, -, -, -⟩ := hi
  have HK := hide2 hK
  have HOK := hide2 hok
  have hpb := hK.blk.lt
  have hlen : B.L.length ≤ 1048577 := by omega
  clear HN hK hok hL
  obtain ⟨al, capL, rfl, hcapL, hmaxL, hrow⟩ := row_open HK.out.L
  unfold maxLen at hmaxL
  have HROW := hide2 hrow
  clear hrow
  have c3 := HK.out.blk.cell (j := 3) rfl
  have HB8 := hide2 (blame_nil HOK.out.simb.sim)
  go_wp2_with fail
  refine (gblame_any ph gc bb G R 0 w2 HK.out.heap HOK.out.simb.sim (by omega)).mono ?_
  obtain ⟨gb, hgb⟩ : ∃ gb, gblame G R 0 = gb := ⟨_, rfl⟩
  rw [hgb] at HB8 ⊢
  clear hgb
  rintro e w3 ⟨v, rfl, hn⟩
  obtain ⟨na, ncap, hv, -, -, -⟩ := row_open hn.row
  subst hv
  have HB3 := hide2 hn.below
  obtain ⟨z1, z2, z3, z4, z5, z6, z7, z8, z9, near⟩ := gb
  have he8 : z1 = 8 := HB8.out
  subst he8
  unfold rptV rptCells
  clear hn c3 HB8
  dsimp only
  generalize near.length = nl
  go_wp2
  go_loopw [8] (fun i wr => ∃ n : Nat, n ≤ B.L.length ∧ i = .int .i64 (n : Int) ∧ Below w2.heap.size w2 wr) (fun i _ => ((B.L.length : Int) - intOf i).toNat)
  case atStart => exact ⟨0, by omega, rfl, HB3.out.alloc HB3.out.size _⟩
  case round =>
    obtain ⟨n, hn, rfl, hb⟩ := hrel
    have HB := hide2 hb
    have HK1 := hide2 (HK.out.below hb)
    have c4 := HK1.out.blk.cell (j := 4) rfl
    have hp1 : pb < wr.heap.size := HK1.out.blk.lt
    clear hb
    by_cases hlt : n < B.L.length
    · have hl2 : (n : Int) < (B.L.length : Int) := by omega
      have h0 : (0 : Int) ≤ (n : Int) := by omega
      obtain ⟨g, rfl, hgl, hcell, hfrz⟩ := HROW.out (by omega)
      obtain ⟨d0, d1, d2, d3, d4, d5, d6⟩ := kblk_cells hcell n hlt
      have d0' := (HB.out.cell (p := ⟨g, n * 7, none⟩) hgl).trans d0
      have d1' := (HB.out.cell (p := ⟨g, n * 7 + 1, none⟩) hgl).trans d1
      have d2' := (HB.out.cell (p := ⟨g, n * 7 + 2, none⟩) hgl).trans d2
      have d3' := (HB.out.cell (p := ⟨g, n * 7 + 3, none⟩) hgl).trans d3
      have d4' := (HB.out.cell (p := ⟨g, n * 7 + 4, none⟩) hgl).trans d4
      have d5' := (HB.out.cell (p := ⟨g, n * 7 + 5, none⟩) hgl).trans d5
      have d6' := (HB.out.cell (p := ⟨g, n * 7 + 6, none⟩) hgl).trans d6
      clear d0 d1 d2 d3 d4 d5 d6 hcell hfrz
      obtain ⟨k, s, t, hh⟩ := HOK.out.had n hlt
      have HH := hide2 hh
      rw [hh.ek] at d1'
      rw [hh.es] at d2'
      have hpd := hh.pbd HOK.out.simb
      have hbd := hh.bd HOK.out.simb
      have hs16 : (s : Int) ≤ 16 := by have := HOK.out.simb.sim.rok.conf.s1 k hh.hk; omega
      have HKK : Hid (k < B.cls.length) := by show _ < _; rw [HOK.out.cls]; exact hh.hk
      clear hh
      obtain ⟨x, hx⟩ : ∃ x, B.L.getD n KBlk.no = x := ⟨_, rfl⟩
      have HXE := hide2 hx
      rw [hx] at d0' d3' d4' d5' d6' hpd
      clear hx
      go_wp2_with fail
      obtain ⟨wa, hwa⟩ : ∃ wa, wa = wr.alloc (.cells #[.int .i64 x.p, .int .i64 (k : Int), .int .i64 (s : Int), .slice (some ⟨x.wb, 0, none⟩) x.want.length x.want.length, .bool x.live, .int .i64 x.site, .int .i64 x.gone] 53) := ⟨_, rfl⟩
      rw [← hwa]
      have hba : Below wr.heap.size wr wa := by rw [hwa]; exact (Below.refl _ _).alloc (Nat.le_refl _) _
      have HX : Hid (Blk wa wr.heap.size 53 [.int .i64 x.p, .int .i64 (k : Int), .int .i64 (s : Int), .slice (some ⟨x.wb, 0, none⟩) x.want.length x.want.length, .bool x.live, .int .i64 x.site, .int .i64 x.gone]) := by rw [hwa]; exact Blk.alloc _ _ _
      have HBA : Hid (Below w2.heap.size w2 wa) := HB.out.trans (hba.mono HB.out.size)
      obtain ⟨ob, hobe⟩ : ∃ ob, ob = wr.heap.size := ⟨_, rfl⟩
      rw [← hobe] at HX ⊢
      have hob := HX.out.lt
      have HKA := hide2 (HK1.out.below hba)
      clear hwa c4 d0' d1' d2' d3' d4' d5' d6' hba hobe
      refine (klater_any pb _ _ _ _ _ _ _ B.L n wa HKA.out.blk HKA.out.L hlt).mono ?_
      rintro e w4 ⟨rfl, hb4⟩
      have HB4 : Hid (Below w2.heap.size w2 w4) := HBA.out.trans (hb4.mono HBA.out.size)
      have HK4 := hide2 (HKA.out.below hb4)
      have HX4 := hide2 (HX.out.below hb4 hob)
      have hob4 := HX4.out.lt
      clear hb4 HX hob
      by_cases hz : klater B.L n = 0
      · have HZ := hide2 hz
        have hzI : ¬ (0 < (klater B.L n : Int)) := by omega
        have hzI2 : (klater B.L n : Int) ≤ 0 := by omega
        rw [hz] at HH
        clear hz
        go_upto_region 16 with (fail)
        obtain ⟨ca, ccap, hvc, hcr⟩ := HK4.out.crow
        subst hvc
        obtain ⟨cg, coff, rfl, hcgl, hccell⟩ := hcr.cells (by rw [HOK.out.cls]; exact HOK.out.simb.sim.rok.conf.n0)
        have hccap := hcr.cap
        have hclen := hcr.len
        unfold maxLen at hccap
        obtain ⟨dg, ds⟩ := hccell k HKK.out
        have HDS := hide2 ds
        have hkI : (k : Int) < (B.cls.length : Int) := by have := HKK.out; omega
        have b1 := HX4.out.cell (j := 1) rfl
        have c2 := HK4.out.blk.cell (j := 2) rfl
        have hp4 : pb < w4.heap.size := HK4.out.blk.lt
        have hg8 : Cf.gr B.cls k ≤ 8 := by rw [HOK.out.cls]; omega
        have hg1 : 1 ≤ Cf.gr B.cls k := by rw [HOK.out.cls]; omega
        have HCLS := hide2 HOK.out.cls
        clear hccell hcr ds
        obtain ⟨gr, hgr⟩ : ∃ gr, Cf.gr B.cls k = gr := ⟨_, rfl⟩
        obtain ⟨sl, hsl⟩ : ∃ sl, Cf.sl B.cls k = sl := ⟨_, rfl⟩
        have HGR := hide2 hgr
        have HSL := hide2 hsl
        rw [hgr] at dg hg8 hg1
        rw [hsl] at HDS
        clear hgr hsl
        go_quiet (fail)
        have HB5 : Hid (Below w2.heap.size w2 (w4.drewN nq)) := below_drewN HB4.out _
        have HX5 : Hid (Blk (w4.drewN nq) ob 53 [.int .i64 x.p, .int .i64 (k : Int), .int .i64 (s : Int), .slice (some ⟨x.wb, 0, none⟩) x.want.length x.want.length, .bool x.live, .int .i64 x.site, .int .i64 x.gone]) := HX4.out.below (below_drewN (Below.refl w4.heap.size w4) nq) hob4
        have HK5 := hide2 (HK4.out.below (below_drewN (Below.refl w4.heap.size w4) nq))
        have HDS5 : Hid ((w4.drewN nq).cell? ⟨cg, coff + k * 2 + 1, none⟩ = some (.int .i64 sl)) := HDS.out
        have hcg5 : cg < (w4.drewN nq).heap.size := hcgl
        clear b1 c2 dg hp4 HX4 HK4 hob4 HDS hcgl
        go_upto_region 17 with (fail)
        generalize w4.drewN nq = w5 at *
        have hob5 := HX5.out.lt
        have hpb5 := HK5.out.blk.lt
        go_cut [12] from 32 to 121 (fun s12 w' => s12 = .bool true ∧ Hid (Below w5.heap.size w5 w'))
        case first =>
          have b4 := HX5.out.cell (j := 4) rfl
          cases hlv : x.live with
          | true =>
            rw [hlv] at b4
            clear hlv
            go_wp2
            go_meet
            case rel => exact ⟨rfl, Below.refl _ _⟩
          | false =>
            have HLV : Hid ((B.L.getD n KBlk.no).live = false) := by show _ = _; rw [HXE.out]; exact hlv
            rw [hlv] at b4
            clear hlv
            go_wp2_with fail
            refine (kgone_any pb ph gc bb G R _ _ vF B n w5 HK5.out HOK.out hlt HZ.out HLV.out).mono ?_
            rintro e w6 ⟨rfl, hb6⟩
            have HB6 := hide2 hb6
            clear hb6 b4
            go_wp2
            go_meet
            case rel => exact ⟨by simp, HB6.out⟩
        case rest =>
          obtain ⟨rfl, HBC⟩ := hcut
          have HB6 : Hid (Below w2.heap.size w2 wc) := HB5.out.trans (HBC.out.mono HB5.out.size)
          have HX6 := hide2 (HX5.out.below HBC.out hob5)
          have HK6 := hide2 (HK5.out.below HBC.out)
          have HDS6 : Hid (wc.cell? ⟨cg, coff + k * 2 + 1, none⟩ = some (.int .i64 sl)) := (HBC.out.cell (p := ⟨cg, coff + k * 2 + 1, none⟩) hcg5).trans HDS5.out
          have hcg6 : cg < wc.heap.size := Nat.lt_of_lt_of_le hcg5 HBC.out.size
          clear HX5 HK5 HBC hob5 hpb5 HDS5 hcg5
          go_upto_region 18 with (fail)
          generalize wc = w6 at *
          have hob6 := HX6.out.lt
          go_cut [13] from 32 to 121 (fun s13 w' => s13 = .bool true ∧ Hid (Below w6.heap.size w6 w'))
          case first =>
            have b2 := HX6.out.cell (j := 2) rfl
            have b0 := HX6.out.cell (j := 0) rfl
            by_cases hs0 : s = 0
            · have hsb : ((s : Int) == 0) = true := by simp [hs0]
              have hsd : decide ((s : Int) = 0) = true := by simp [hs0]
              clear hs0
              go_wp2
              go_meet
              case rel => exact ⟨by simp, Below.refl _ _⟩
            · have hsb : ((s : Int) == 0) = false := by rw [beq_eq_false_iff_ne]; omega
              have hsd : decide ((s : Int) = 0) = false := decide_eq_false (by omega)
              have hwr1 : IntKind.i64.wrap (x.p - 16 * gr) = x.p - 16 * gr := by rw [IntKind.wrap_i64]; omega
              go_wp2_with fail
              have hcall := ktold_below (vL := _) (vF := vF) HK6.out HOK.out hlt HH.out (by omega)
              rw [HXE.out, ← HCLS.out, HGR.out] at hcall
              refine hcall.mono ?_
              rintro e w7 ⟨rfl, hb7⟩
              have HB7 := hide2 hb7
              clear hb7 b0 b2 hcall
              go_wp2
              go_meet
              case rel => exact ⟨by simp, HB7.out⟩
          case rest =>
            obtain ⟨rfl, HBC⟩ := hcut
            have HB7 : Hid (Below w2.heap.size w2 wc) := HB6.out.trans (HBC.out.mono HB6.out.size)
            have HX7 := hide2 (HX6.out.below HBC.out hob6)
            have HK7 := hide2 (HK6.out.below HBC.out)
            have HDS7 : Hid (wc.cell? ⟨cg, coff + k * 2 + 1, none⟩ = some (.int .i64 sl)) := (HBC.out.cell (p := ⟨cg, coff + k * 2 + 1, none⟩) hcg6).trans HDS6.out
            have hcg7 : cg < wc.heap.size := Nat.lt_of_lt_of_le hcg6 HBC.out.size
            clear HX6 HK6 HBC hob6 HDS6 hcg6
            go_upto_region 19 with (fail)
            generalize wc = w7 at *
            have hob7 := HX7.out.lt
            have hpb7 := HK7.out.blk.lt
            go_cut [14] from 32 to 121 (fun s14 w' => s14 = .bool true ∧ Hid (Below w7.heap.size w7 w'))
            case first =>
              have b2 := HX7.out.cell (j := 2) rfl
              have b1 := HX7.out.cell (j := 1) rfl
              have b0 := HX7.out.cell (j := 0) rfl
              have c2 := HK7.out.blk.cell (j := 2) rfl
              have ds := HDS7.out
              by_cases hs0 : (s : Int) + 1 = sl
              · have hsb : ((s : Int) + 1 == sl) = true := by simp [hs0]
                clear hs0
                go_quiet (fail)
                go_wp2
                go_meet
                case rel => exact ⟨by simp, below_drewN (Below.refl _ _) _⟩
              · have hsb : ((s : Int) + 1 == sl) = false := by rw [beq_eq_false_iff_ne]; exact hs0
                have hsd : decide ((s : Int) + 1 = sl) = false := decide_eq_false hs0
                have hwr1 : IntKind.i64.wrap (x.p + 16 * gr) = x.p + 16 * gr := by rw [IntKind.wrap_i64]; omega
                have hwr2 : IntKind.i64.wrap ((s : Int) + 1) = (s : Int) + 1 := by rw [IntKind.wrap_i64]; omega
                have HCALL : Hid (∀ w9, KRep w9 pb ph gc bb G (.slice (some ⟨cg, coff, none⟩) B.cls.length ccap) (.slice (some ⟨g, 0, none⟩) B.L.length capL) vF B → Calls Try.prog 35 #[.pointer (some ⟨pb, 0, none⟩), .int .i64 (n : Int), .int .i64 (x.p + 16 * gr), .int .i64 ((s : Int) + 1)] w9 fun e w' => e = .returned (.bool true) ∧ Below w9.heap.size w9 w') := fun w9 hk9 => by
                  have hsl := HSL.out
                  have hhs := HH.out.hs
                  rw [HCLS.out] at hsl
                  have hcall := ktold_above (vF := vF) hk9 HOK.out hlt HH.out (by omega)
                  rw [HXE.out, ← HCLS.out, HGR.out] at hcall
                  exact hcall
                clear hs0
                go_region_held3 (fun w' => w'.cell? ⟨pb, 2, none⟩ = some (.slice (some ⟨cg, coff, none⟩) B.cls.length ccap) ∧ w'.cell? ⟨ob, 0, none⟩ = some (.int .i64 x.p) ∧ w'.cell? ⟨ob, 1, none⟩ = some (.int .i64 (k : Int)) ∧ w'.cell? ⟨ob, 2, none⟩ = some (.int .i64 (s : Int)) ∧ w'.cell? ⟨cg, coff + k * 2 + 1, none⟩ = some (.int .i64 sl)) (go_keep)
                  (first | (go_at_call 35; refine (HCALL.out w7.drew (HK7.out.below (below_drewN (Below.refl w7.heap.size w7) 1))).mono ?_; rintro e9 w9 ⟨rfl, hb9⟩; have HB9 : Hid (Below w7.heap.size w7 w9) := ⟨hb9.os, hb9.tape, hb9.output, hb9.size, hb9.block⟩; have q2 := (HB9.out.cell (p := ⟨pb, 2, none⟩) hpb7).trans c2; have p0 := (HB9.out.cell (p := ⟨ob, 0, none⟩) hob7).trans b0; have p1 := (HB9.out.cell (p := ⟨ob, 1, none⟩) hob7).trans b1; have p2 := (HB9.out.cell (p := ⟨ob, 2, none⟩) hob7).trans b2; have q3 := (HB9.out.cell (p := ⟨cg, coff + k * 2 + 1, none⟩) hcg7).trans ds; clear hb9))
                all_goals
                  go_wp2
                  go_meet
                  case rel => exact ⟨by simp, HB9.out⟩
            case rest =>
              obtain ⟨rfl, HBC⟩ := hcut
              have HB8 : Hid (Below w2.heap.size w2 wc) := HB7.out.trans (HBC.out.mono HB7.out.size)
              clear HBC
              go_wp2
              go_roundw
              case rel => exact ⟨n + 1, by omega, by go_num, HB8.out⟩
              case measure => simp [intOf]; omega
      · have hzI : 0 < (klater B.L n : Int) := by omega
        clear hz
        go_wp2
        go_roundw
        case rel => exact ⟨n + 1, by omega, by go_num, HB4.out⟩
        case measure => simp [intOf]; omega
    · obtain rfl : n = B.L.length := by omega
      go_wp2
      go_ret
      exact ⟨rfl, HBL.out.trans (HB.out.mono HBL.out.size)⟩
end Go.Proofs.Ytjikemhmnkckcaa
