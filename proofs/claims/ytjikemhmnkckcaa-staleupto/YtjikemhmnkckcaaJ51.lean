import Derived.Test.YtjikemhmnkckcaaJ50
import Derived.Test.YtjikemhmnkckcaaJ41
import Derived.Deep.QuietTactic
import Derived.BigQuiet
namespace Go.Proofs.Ytjikemhmnkckcaa
open Go.RowKit

theorem KIn.bel {w0 w : World} {pb n : Nat} (h : KIn w0 w pb n) : Below w0.heap.size w0 w := by
  obtain ⟨_, _, _, _, _, _, _, _, _, _, _, _, _, _, _, hb, _⟩ := h
  exact hb

theorem TRow.below {w w' : World} {a : Option Addr} {n c : Nat} {u : Nat → Nat → Int} (h : TRow w a n c u) (hb : Below w.heap.size w w') : TRow w' a n c u :=
  ⟨h.len, h.cap, fun h0 => by
    obtain ⟨g, off, ha, hg, hc⟩ := h.cells h0
    exact ⟨g, off, ha, Nat.lt_of_lt_of_le hg hb.size, fun i hi j hj => (hb.cell (p := ⟨g, off + i * 4 + j, none⟩) hg).trans (hc i hi j hj)⟩, h.bd⟩

set_option maxRecDepth 100000 in
set_option maxHeartbeats 1600000 in
theorem rested_any (st rest : Int) (a : Option Addr) (cap : Nat) (cls : List (Int × Int)) (ta : Option Addr) (tlen tcap : Nat) (u : Nat → Nat → Int) (w : World) (h : CRow w a cap cls) (b0 : -9223372036854775808 ≤ st) (b1 : st ≤ 9223372036854775807) (b2 : -9223372036854775808 ≤ rest) (b3 : rest ≤ 9223372036854775807) (hs : TRow w ta tlen tcap u) (hl : tlen ≤ 1048576) :
    Calls Try.prog 7 #[.agg #[.int .i64 st, .int .i64 rest, .slice a cls.length cap], .slice ta tlen tcap] w fun e w' => e = .returned (.bool true) ∧ Below w.heap.size w w' := by
  have HC := hide2 h
  have HS := hide2 hs
  have HBB := hide2 (And.intro (And.intro b0 b1) (And.intro b2 b3))
  clear h hs b0 b1 b2 b3
  go_enter Try.func7, Try.ntmps7
  go_wp2_with fail
  obtain ⟨wa, hwa⟩ : ∃ wa, wa = w.alloc (.cells #[.int .i64 st, .int .i64 rest, .slice a cls.length cap] 24) := ⟨_, rfl⟩
  rw [← hwa]
  have HBA : Hid (Below w.heap.size w wa) := by show Below _ _ _; rw [hwa]; exact (Below.refl _ _).alloc (Nat.le_refl _) _
  clear hwa
  refine (kopen_any st rest a cap cls wa (HC.out.below HBA.out) HBB.out.1.1 HBB.out.1.2 HBB.out.2.1 HBB.out.2.2).mono ?_
  rintro e w1 ⟨pb, rfl, hn⟩
  have HN := hide2 hn
  clear hn
  go_wp2_with fail
  refine (kplays_any wa pb ta tlen tcap u true w1 HN.out (HS.out.below HBA.out) hl).mono ?_
  rintro e w2 ⟨rfl, hi⟩
  have HI := hide2 hi
  clear hi
  go_wp2
  go_ret
  exact ⟨rfl, HBA.out.trans (HI.out.bel.mono HBA.out.size)⟩
end Go.Proofs.Ytjikemhmnkckcaa
/- Apart: every live block stands. -/
namespace Go.Proofs.Ytjikemhmnkckcaa
open Go.RowKit

set_option maxRecDepth 100000 in
set_option maxHeartbeats 3200000 in
theorem apart_any (st rest : Int) (a : Option Addr) (cap : Nat) (cls : List (Int × Int)) (ta : Option Addr) (tlen tcap : Nat) (u : Nat → Nat → Int) (w : World) (h : CRow w a cap cls) (b0 : -9223372036854775808 ≤ st) (b1 : st ≤ 9223372036854775807) (b2 : -9223372036854775808 ≤ rest) (b3 : rest ≤ 9223372036854775807) (hs : TRow w ta tlen tcap u) (hl : tlen ≤ 1048576) :
    Calls Try.prog 9 #[.agg #[.int .i64 st, .int .i64 rest, .slice a cls.length cap], .slice ta tlen tcap] w fun e w' => e = .returned (.bool true) ∧ Below w.heap.size w w' := by
  have HC := hide2 h
  have HS := hide2 hs
  have HBB := hide2 (And.intro (And.intro b0 b1) (And.intro b2 b3))
  clear h hs b0 b1 b2 b3
  go_enter Try.func9, Try.ntmps9
  go_wp2_with fail
  obtain ⟨wa, hwa⟩ : ∃ wa, wa = w.alloc (.cells #[.int .i64 st, .int .i64 rest, .slice a cls.length cap] 24) := ⟨_, rfl⟩
  rw [← hwa]
  have HBA : Hid (Below w.heap.size w wa) := by show Below _ _ _; rw [hwa]; exact (Below.refl _ _).alloc (Nat.le_refl _) _
  clear hwa
  refine (kopen_any st rest a cap cls wa (HC.out.below HBA.out) HBB.out.1.1 HBB.out.1.2 HBB.out.2.1 HBB.out.2.2).mono ?_
  rintro e w1 ⟨pb, rfl, hn⟩
  have HN := hide2 hn
  clear hn
  go_wp2_with fail
  refine (kplays_any wa pb ta tlen tcap u false w1 HN.out (HS.out.below HBA.out) hl).mono ?_
  rintro e w2 ⟨rfl, hi⟩
  have HBL : Hid (Below w.heap.size w w2) := HBA.out.trans (hi.bel.mono HBA.out.size)
  obtain ⟨ph, gc, bb, G, R, vc, vL, vF, B, hK, hok, hL, -, -, -, -, -⟩ := hi
  have HK := hide2 hK
  have HOK := hide2 hok
  have hpb := hK.blk.lt
  have hlen : B.L.length ≤ 1048577 := by omega
  clear HN hK hok hL
  obtain ⟨al, capL, rfl, hcapL, hmaxL, hrow⟩ := row_open HK.out.L
  unfold maxLen at hmaxL
  have HROW := hide2 hrow
  clear hrow
  go_wp2_with fail
  go_loopw [7] (fun i wr => ∃ n : Nat, n ≤ B.L.length ∧ i = .int .i64 (n : Int) ∧ Below w2.heap.size w2 wr) (fun i _ => ((B.L.length : Int) - intOf i).toNat)
  case atStart => exact ⟨0, by omega, rfl, Below.refl _ _⟩
  case round =>
    obtain ⟨n, hn, rfl, hb⟩ := hrel
    have HB := hide2 hb
    have HK1 := hide2 (HK.out.below hb)
    have c4 := HK1.out.blk.cell (j := 4) rfl
    have hp1 : pb < wr.heap.size := HK1.out.blk.lt
    clear hb
    by_cases hlt : n < B.L.length
    · have hl2 : (n : Int) < (B.L.length : Int) := by omega
      have h0 : (0 : Int) ≤ (n : Int) := by omega
      obtain ⟨g, rfl, hgl, hcell, hfrz⟩ := HROW.out (by omega)
      obtain ⟨d0, d1, d2, d3, d4, d5, d6⟩ := kblk_cells hcell n hlt
      have d4' := (HB.out.cell (p := ⟨g, n * 7 + 4, none⟩) hgl).trans d4
      clear d0 d1 d2 d3 d4 d5 d6 hcell hfrz
      cases hlv : (B.L.getD n KBlk.no).live with
      | false =>
        rw [hlv] at d4'
        have HLV := hide2 hlv
        clear hlv
        go_wp2
        go_roundw
        case rel => exact ⟨n + 1, by omega, by go_num, HB.out⟩
        case measure => simp [intOf]; omega
      | true =>
        rw [hlv] at d4'
        have HST : Hid (Stands R (B.L.getD n KBlk.no) ∧ (B.L.getD n KBlk.no).want.length ≤ 128 ∧ 0 ≤ (B.L.getD n KBlk.no).p ∧ (B.L.getD n KBlk.no).p ≤ 2000000000000000000) := by
          obtain ⟨k, s, hkl⟩ := HOK.out.live n hlt hlv
          have hb := hkl.bd HOK.out.simb
          have hp := hkl.p
          exact ⟨hkl.stands HOK.out.simb, hb.2.2.2.2.1, by omega, by omega⟩
        clear hlv
        go_wp2_with fail
        refine (kstands_any pb ph gc bb G R vc _ vF B n wr HK1.out HOK.out.simb hlt HST.out.1 HST.out.2.1 HST.out.2.2.1 HST.out.2.2.2).mono ?_
        rintro e w3 ⟨rfl, hb3⟩
        have HB3 : Hid (Below w2.heap.size w2 w3) := HB.out.trans (hb3.mono HB.out.size)
        clear hb3 c4 d4'
        go_wp2
        go_roundw
        case rel => exact ⟨n + 1, by omega, by go_num, HB3.out⟩
        case measure => simp [intOf]; omega
    · obtain rfl : n = B.L.length := by omega
      go_wp2
      go_ret
      exact ⟨rfl, HBL.out.trans (HB.out.mono HBL.out.size)⟩
end Go.Proofs.Ytjikemhmnkckcaa
/- Stale: an access that is refused. -/
namespace Go.Proofs.Ytjikemhmnkckcaa
open Go.RowKit

set_option maxRecDepth 100000 in
set_option maxHeartbeats 1600000 in
theorem gstore_no (p : Nat) (vc : Value) (bb : Nat) (G : GSt) (R : RSt) (q n v : Int) (w : World) (h : GRep w p vc bb G) (hs : SimB G R) (q1 : q ≤ 9223372036854775807) (he : R.storeErr q n ≠ 0) :
    Calls Try.prog 84 #[.pointer (some ⟨p, 0, none⟩), .int .i64 q, .int .i64 n, .int .i64 v] w fun e w' => e = .returned (.int .i64 (R.storeErr q n)) ∧ Below w.heap.size w w' := by
  have HR := hide2 h
  have HS := hide2 hs
  have heb : (R.storeErr q n != 0) = true := by simp [he]
  clear h hs he
  go_enter Try.func84, Try.ntmps84
  go_wp2_with (go_at_call 69; refine (accessNumber_any p vc bb G R q n w HR.out HS.out.sim q1).mono ?_; rintro e1 w1 ⟨rfl, hb1⟩)
  go_ret
  exact ⟨rfl, hb1⟩

set_option maxRecDepth 100000 in
set_option maxHeartbeats 3200000 in
theorem krefused_yes (pb ph : Nat) (gc : Value) (bb : Nat) (G : GSt) (R : RSt) (vc vL vF : Value) (B : KSt) (p want : Int) (w : World) (h : KRep w pb ph gc bb G vc vL vF B) (hs : SimB G R) (q1 : p ≤ 9223372036854775807) (hw : want ≠ 0) (ha : (R.access p 1).1 = want) :
    Calls Try.prog 57 #[.pointer (some ⟨pb, 0, none⟩), .int .i64 p, .int .i64 want] w fun e w' => e = .returned (.bool true) ∧ Below w.heap.size w w' := by
  have HA := hide2 h
  have HS := hide2 hs
  have hpb := h.blk.lt
  have c3 := h.blk.cell (j := 3) rfl
  have HL : Hid ((R.load p 1).2 = want) := by
    show _ = _
    unfold RSt.load
    rw [if_neg (by decide), if_pos (by rw [ha]; exact hw)]
    exact ha
  have HE : Hid (R.storeErr p 1 = want) := by
    show _ = _
    unfold RSt.storeErr
    rw [if_neg (by decide)]
    exact ha
  have HN : Hid (R.storeErr p 1 ≠ 0) := by
    show _ ≠ _
    rw [HE.out]; exact hw
  clear h hs ha hw
  go_enter Try.func57, Try.ntmps57
  go_wp2_with fail
  refine (gload_any ph gc bb G R p 1 w HA.out.heap HS.out q1).mono ?_
  rw [HL.out]
  rintro e1 w1 ⟨rfl, hb1⟩
  have HB1 := hide2 hb1
  have c3' := (hb1.cell (p := ⟨pb, 3, none⟩) hpb).trans c3
  clear hb1 c3
  go_wp2_with fail
  refine (gstore_no ph gc bb G R p 1 1 w1 (HA.out.heap.below HB1.out) HS.out q1 HN.out).mono ?_
  rw [HE.out]
  rintro e2 w2 ⟨rfl, hb2⟩
  have HB2 : Hid (Below w.heap.size w w2) := HB1.out.trans (hb2.mono HB1.out.size)
  have hee : (want == want) = true := by simp
  clear hb2 c3'
  go_wp2
  go_ret
  exact ⟨by simp, HB2.out⟩
end Go.Proofs.Ytjikemhmnkckcaa
/- Stale: how many blocks were given behind one. -/
namespace Go.Proofs.Ytjikemhmnkckcaa
open Go.RowKit

set_option maxRecDepth 100000 in
set_option maxHeartbeats 1600000 in
theorem klater_any (pb : Nat) (x0 x1 x2 x3 vL x5 x6 : Value) (L : List KBlk) (i : Nat) (w : World) (hB : Blk w pb 51 [x0, x1, x2, x3, vL, x5, x6]) (hL : w.ownsRow 0 53 7 vL L.length (L.flatMap kblkCells)) (hi : i < L.length) :
    Calls Try.prog 26 #[.pointer (some ⟨pb, 0, none⟩), .int .i64 (i : Int)] w fun e w' => e = .returned (.int .i64 (klater L i : Int)) ∧ Below w.heap.size w w' := by
  have c4 := hB.cell (j := 4) rfl
  have hpb := hB.lt
  obtain ⟨a, cap, rfl, hcap, hmax, hrow⟩ := row_open hL
  unfold maxLen at hmax
  obtain ⟨g, rfl, hgl, hcell, _⟩ := hrow (by omega)
  obtain ⟨_, i1, i2, _, _, _, _⟩ := kblk_cells hcell i hi
  have HCELL := hide2 hcell
  have hII : (i : Int) < (L.length : Int) := by omega
  have HZ := hide2 (klaterTo_early L i (i + 1) (Nat.le_refl _))
  clear hB hL hrow hcell
  go_enter Try.func26, Try.ntmps26
  go_wp2
  go_loopw [5, 6] (fun n j wr => ∃ m : Nat, i < m ∧ m ≤ L.length ∧ j = .int .i64 (m : Int) ∧ n = .int .i64 (klaterTo L i m : Int) ∧ Below w.heap.size w wr) (fun _ j _ => L.length - (intOf j).toNat)
  case atStart => exact ⟨i + 1, by omega, by omega, by go_num, by rw [HZ.out]; rfl, Below.refl _ _⟩
  case round =>
    obtain ⟨m, him, hm, rfl, rfl, hb⟩ := hrel
    have c4' := (hb.cell (p := ⟨pb, 4, none⟩) hpb).trans c4
    have i1' := (hb.cell (p := ⟨g, i * 7 + 1, none⟩) hgl).trans i1
    have i2' := (hb.cell (p := ⟨g, i * 7 + 2, none⟩) hgl).trans i2
    have hle := klaterTo_le L i m
    by_cases hlt : m < L.length
    · obtain ⟨_, d1, d2, _, _, _, _⟩ := kblk_cells HCELL.out m hlt
      have d1' := (hb.cell (p := ⟨g, m * 7 + 1, none⟩) hgl).trans d1
      have d2' := (hb.cell (p := ⟨g, m * 7 + 2, none⟩) hgl).trans d2
      have hI : (m : Int) < (L.length : Int) := by omega
      have hst : Hid (klaterTo L i (m + 1) = klaterTo L i m + if i < m ∧ (L.getD m KBlk.no).k = (L.getD i KBlk.no).k ∧ (L.getD m KBlk.no).s = (L.getD i KBlk.no).s then 1 else 0) := rfl
      clear d1 d2 i1 i2 c4
      generalize (L.getD m KBlk.no).k = xk at *
      generalize (L.getD m KBlk.no).s = xs at *
      generalize (L.getD i KBlk.no).k = yk at *
      generalize (L.getD i KBlk.no).s = ys at *
      by_cases hk : xk = yk
      · by_cases hs : xs = ys
        · have HN : Hid ((klaterTo L i (m + 1) : Int) = (klaterTo L i m : Int) + 1) := by show _ = _; rw [hst.out, if_pos ⟨him, hk, hs⟩]; rfl
          have hkb : decide (xk = yk) = true := by simp [hk]
          have hsb : decide (xs = ys) = true := by simp [hs]
          clear hst
          go_wp2_with fail
          go_quiet (fail)
          go_wp2
          go_roundw
          case rel => exact ⟨m + 1, by omega, by omega, by go_num, by first | (rw [HN.out]; done) | (rw [HN.out]; rfl), below_drewN hb _⟩
          case measure => simp [intOf]; omega
        · have HN : Hid (klaterTo L i (m + 1) = klaterTo L i m) := by show _ = _; rw [hst.out, if_neg (fun y => hs y.2.2), Nat.add_zero]
          have hkb : decide (xk = yk) = true := by simp [hk]
          have hsb : decide (xs = ys) = false := by simp [hs]
          clear hst
          go_wp2_with fail
          go_quiet (fail)
          go_wp2
          go_roundw
          case rel => exact ⟨m + 1, by omega, by omega, by go_num, by first | (rw [HN.out]; done) | (rw [HN.out]; rfl), below_drewN hb _⟩
          case measure => simp [intOf]; omega
      · have HN : Hid (klaterTo L i (m + 1) = klaterTo L i m) := by show _ = _; rw [hst.out, if_neg (fun y => hk y.2.1), Nat.add_zero]
        have hkb : decide (xk = yk) = false := by simp [hk]
        clear hst
        go_wp2_with fail
        go_quiet (fail)
        go_wp2
        go_roundw
        case rel => exact ⟨m + 1, by omega, by omega, by go_num, by first | (rw [HN.out]; done) | (rw [HN.out]; rfl), below_drewN hb _⟩
        case measure => simp [intOf]; omega
    · obtain rfl : m = L.length := by omega
      go_wp2
      go_ret
      exact ⟨rfl, hb⟩
end Go.Proofs.Ytjikemhmnkckcaa
