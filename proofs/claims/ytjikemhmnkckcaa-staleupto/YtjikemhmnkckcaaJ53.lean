import Derived.Test.YtjikemhmnkckcaaJ51
import Derived.Test.YtjikemhmnkckcaaJ52
import Derived.Deep.QuietTactic
import Derived.BigQuiet
import Derived.Test.YtjikemhmnkckcaaRows
import Derived.Test.YtjikemhmnkckcaaJ2
import Derived.ProofKit
import Derived.OpenShut
import Derived.Lib.SmallJoins
import Derived.Deep.SlicePairs
import Derived.SizedLaws
/- Stale: the slots beside. -/
namespace Go.Proofs.Ytjikemhmnkckcaa
open Go.RowKit

set_option maxRecDepth 100000 in
set_option maxHeartbeats 3200000 in
theorem kside_any (pb ph : Nat) (gc : Value) (bb : Nat) (G : GSt) (R : RSt) (vc vL vF : Value) (B : KSt) (k : Nat) (s p edge : Int) (w : World) (h : KRep w pb ph gc bb G vc vL vF B) (hok : KOk B G R) (hk : k < B.cls.length)
    (h1 : s < 0 ∨ Cf.sl B.cls k ≤ s → (R.access edge 1).1 = 6) (h2 : 0 ≤ s → s < Cf.sl B.cls k → ∀ m : Nat, (m : Int) < Cf.gr B.cls k → (R.access (p + 16 * m) 1).1 = 7) (p0 : 0 ≤ p) (p1 : p ≤ 2000000000000000000) (e1 : edge ≤ 2000000000000000000) :
    Calls Try.prog 58 #[.pointer (some ⟨pb, 0, none⟩), .int .i64 (k : Int), .int .i64 s, .int .i64 p, .int .i64 edge] w fun e w' => e = .returned (.bool true) ∧ Below w.heap.size w w' := by
  obtain ⟨ca, ccap, hvc, hcr⟩ := h.crow
  subst hvc
  obtain ⟨cg, coff, rfl, hcgl, hccell⟩ := hcr.cells (by rw [hok.cls]; exact hok.simb.sim.rok.conf.n0)
  have hccap := hcr.cap
  have hclen := hcr.len
  unfold maxLen at hccap
  obtain ⟨dg, ds⟩ := hccell k hk
  have HK := hide2 h
  have HS := hide2 hok.simb
  have hpb := h.blk.lt
  have c2 := h.blk.cell (j := 2) rfl
  have H1 := hide2 h1
  have H2 := hide2 h2
  have hg8 : Cf.gr B.cls k ≤ 8 := by rw [hok.cls]; exact hok.simb.sim.rok.conf.g1 k (by rw [← hok.cls]; exact hk)
  have hkI : (k : Int) < (B.cls.length : Int) := by omega
  clear h hok h1 h2 hccell hcr
  generalize Cf.gr B.cls k = gr at *
  generalize Cf.sl B.cls k = sl at *
  by_cases c1 : s < 0
  · have HA := hide2 (H1.out (.inl c1))
    clear H1 H2
    go_enter Try.func58, Try.ntmps58
    go_wp2_with fail
    refine (krefused_yes pb ph gc bb G R _ vL vF B edge 6 _ HK.out HS.out (by omega) (by decide) HA.out).mono ?_
    rintro e w1 ⟨rfl, hb1⟩
    go_wp2
    go_ret
    exact ⟨rfl, hb1⟩
  · by_cases c3 : sl ≤ s
    · have HA := hide2 (H1.out (.inr c3))
      clear H1 H2
      go_enter Try.func58, Try.ntmps58
      go_wp2_with fail
      refine (krefused_yes pb ph gc bb G R _ vL vF B edge 6 _ HK.out HS.out (by omega) (by decide) HA.out).mono ?_
      rintro e w1 ⟨rfl, hb1⟩
      go_wp2
      go_ret
      exact ⟨rfl, hb1⟩
    · have HA := hide2 (H2.out (by omega) (by omega))
      clear H1 H2
      go_enter Try.func58, Try.ntmps58
      go_wp2
      go_loopw [11] (fun j wr => ∃ m : Nat, (m : Int) ≤ max gr 0 ∧ j = .int .i64 (m : Int) ∧ Below w.heap.size w wr) (fun j _ => (gr - intOf j).toNat)
      case atStart => exact ⟨0, by omega, rfl, Below.refl _ _⟩
      case round =>
        obtain ⟨m, hm, rfl, hb⟩ := hrel
        have c2' := (hb.cell (p := ⟨pb, 2, none⟩) hpb).trans c2
        have dg' := (hb.cell (p := ⟨cg, coff + k * 2, none⟩) hcgl).trans dg
        have HB := hide2 hb
        clear hb c2 dg ds
        by_cases hlt : (m : Int) < gr
        · have HM := hide2 (HA.out m hlt)
          have hxw : IntKind.i64.wrap (p + 16 * (m : Int)) = p + 16 * (m : Int) := by rw [IntKind.wrap_i64]; omega
          go_wp2_with fail
          refine (krefused_yes pb ph gc bb G R _ vL vF B (p + 16 * (m : Int)) 7 _ (HK.out.below HB.out) HS.out (by omega) (by decide) HM.out).mono ?_
          rintro e w1 ⟨rfl, hb1⟩
          have HB1 : Hid (Below w.heap.size w w1) := HB.out.trans (hb1.mono HB.out.size)
          clear hb1
          go_wp2
          go_roundw
          case rel => exact ⟨m + 1, by omega, by go_num, HB1.out⟩
          case measure => simp [intOf]; omega
        · go_wp2
          go_ret
          exact ⟨rfl, HB.out⟩
end Go.Proofs.Ytjikemhmnkckcaa
/- Stale: beside. -/
namespace Go.Proofs.Ytjikemhmnkckcaa
open Go.RowKit

set_option maxRecDepth 100000 in
set_option maxHeartbeats 3200000 in
theorem kbeside_any (pb ph : Nat) (gc : Value) (bb : Nat) (G : GSt) (R : RSt) (vc vL vF : Value) (B : KSt) (i : Nat) (w : World) (h : KRep w pb ph gc bb G vc vL vF B) (hok : KOk B G R) (hi : i < B.L.length) (hz : klater B.L i = 0) :
    Calls Try.prog 27 #[.pointer (some ⟨pb, 0, none⟩), .int .i64 (i : Int)] w fun e w' => e = .returned (.bool true) ∧ Below w.heap.size w w' := by
  obtain ⟨k, s, t, hh⟩ := hok.had i hi
  rw [hz] at hh
  have hbd := hh.bd hok.simb
  have hpd := hh.pbd hok.simb
  have hsl := hh.hs
  have hkk : k < B.cls.length := by rw [hok.cls]; exact hh.hk
  have HBL : Hid ((s : Int) - 1 < 0 ∨ Cf.sl B.cls k ≤ (s : Int) - 1 → (R.access ((B.L.getD i KBlk.no).p - 16) 1).1 = 6) := by
    rw [hok.cls]
    rintro (c | c)
    · exact hh.edgeDown hok.simb (by omega)
    · omega
  have HBL2 : Hid (0 ≤ (s : Int) - 1 → (s : Int) - 1 < Cf.sl B.cls k → ∀ m : Nat, (m : Int) < Cf.gr B.cls k → (R.access ((B.L.getD i KBlk.no).p - 16 * Cf.gr B.cls k + 16 * m) 1).1 = 7) := by
    rw [hok.cls]
    exact fun c _ m hm => hh.below hok (by omega) m hm
  have HAB : Hid ((s : Int) + 1 < 0 ∨ Cf.sl B.cls k ≤ (s : Int) + 1 → (R.access ((B.L.getD i KBlk.no).p + 16 * Cf.gr B.cls k) 1).1 = 6) := by
    rw [hok.cls]
    rintro (c | c)
    · omega
    · exact hh.edgeUp hok.simb (by omega)
  have HAB2 : Hid (0 ≤ (s : Int) + 1 → (s : Int) + 1 < Cf.sl B.cls k → ∀ m : Nat, (m : Int) < Cf.gr B.cls k → (R.access ((B.L.getD i KBlk.no).p + 16 * Cf.gr B.cls k + 16 * m) 1).1 = 7) := by
    rw [hok.cls]
    exact fun _ c m hm => hh.above hok (by omega) m hm
  obtain ⟨ca, ccap, hvc, hcr⟩ := h.crow
  subst hvc
  obtain ⟨cg, coff, rfl, hcgl, hccell⟩ := hcr.cells (by rw [hok.cls]; exact hok.simb.sim.rok.conf.n0)
  have hccap := hcr.cap
  have hclen := hcr.len
  unfold maxLen at hccap
  have dk := (hccell k hkk).1
  obtain ⟨al, cap, rfl, hcap, hmax, hrow⟩ := row_open h.L
  obtain ⟨g, rfl, hgl, hcell, hfrz⟩ := hrow (by omega)
  unfold maxLen at hmax
  have HK := hide2 h
  have HOK := hide2 hok
  have hpb := h.blk.lt
  have c2 := h.blk.cell (j := 2) rfl
  have c4 := h.blk.cell (j := 4) rfl
  obtain ⟨d0, d1, d2, d3, d4, d5, d6⟩ := kblk_cells hcell i hi
  have hiI : (i : Int) < (B.L.length : Int) := by omega
  have hg8 : Cf.gr B.cls k ≤ 8 := by rw [hok.cls]; omega
  have hg1 : 1 ≤ Cf.gr B.cls k := by rw [hok.cls]; omega
  have hs16 : (s : Int) ≤ 16 := by have := hok.simb.sim.rok.conf.s1 k hh.hk; omega
  rw [hh.ek] at d1
  rw [hh.es] at d2
  have HKK := hide2 hkk
  have hkI : (k : Int) < (B.cls.length : Int) := by omega
  generalize hxe : B.L.getD i KBlk.no = x at *
  generalize hgre : Cf.gr B.cls k = gr at *
  have HGR := hide2 hgre
  clear h hok hrow hcell hfrz hh hxe hccell hcr hz hgre hbd hsl
  go_enter Try.func27, Try.ntmps27
  go_wp2_with fail
  obtain ⟨wa, hwa⟩ : ∃ wa, wa = w.alloc (.cells #[.int .i64 x.p, .int .i64 k, .int .i64 s, .slice (some ⟨x.wb, 0, none⟩) x.want.length x.want.length, .bool x.live, .int .i64 x.site, .int .i64 x.gone] 53) := ⟨_, rfl⟩
  rw [← hwa]
  have hba : Below w.heap.size w wa := by rw [hwa]; exact (Below.refl _ _).alloc (Nat.le_refl _) _
  have hsa : wa.heap.size = w.heap.size + 1 := by rw [hwa, World.size_alloc]
  have HX : Hid (Blk wa w.heap.size 53 [.int .i64 x.p, .int .i64 k, .int .i64 s, .slice (some ⟨x.wb, 0, none⟩) x.want.length x.want.length, .bool x.live, .int .i64 x.site, .int .i64 x.gone]) := by rw [hwa]; exact Blk.alloc _ _ _
  have HBA := hide2 hba
  obtain ⟨ob, hobe⟩ : ∃ ob, ob = w.heap.size := ⟨_, rfl⟩
  rw [← hobe] at HX ⊢
  have hob : ob < wa.heap.size := by omega
  have b0 := HX.out.cell (j := 0) rfl
  have b1 := HX.out.cell (j := 1) rfl
  have b2 := HX.out.cell (j := 2) rfl
  have c2' := (hba.cell (p := ⟨pb, 2, none⟩) hpb).trans c2
  have dk' := (hba.cell (p := ⟨cg, coff + k * 2, none⟩) hcgl).trans dk
  have hpa : pb < wa.heap.size := by omega
  clear hwa c2 c4 d0 d1 d2 d3 d4 d5 d6 hba hobe dk
  have x1 : IntKind.i64.wrap (x.p - 16 * gr) = x.p - 16 * gr := by rw [IntKind.wrap_i64]; omega
  have x2 : IntKind.i64.wrap (x.p + 16 * gr) = x.p + 16 * gr := by rw [IntKind.wrap_i64]; omega
  go_quiet (fail)
  go_wp2_with fail
  have HBQ : Hid (Below w.heap.size w (wa.drewN nq)) := below_drewN HBA.out _
  have HXQ : Hid (Blk (wa.drewN nq) ob 53 [.int .i64 x.p, .int .i64 k, .int .i64 s, .slice (some ⟨x.wb, 0, none⟩) x.want.length x.want.length, .bool x.live, .int .i64 x.site, .int .i64 x.gone]) := HX.out.below (below_drewN (Below.refl wa.heap.size wa) nq) hob
  clear b0 b1 b2 c2' dk' hpa hob
  generalize wa.drewN nq = wq at *
  have hobq := HXQ.out.lt
  refine (kside_any pb ph gc bb G R _ _ vF B k ((s : Int) - 1) (x.p - 16 * gr) (x.p - 16) wq (HK.out.below HBQ.out) HOK.out HKK.out HBL.out (by rw [HGR.out]; exact HBL2.out) (by omega) (by omega) (by omega)).mono ?_
  rintro e1 w1 ⟨rfl, hb1⟩
  have HB1 : Hid (Below w.heap.size w w1) := HBQ.out.trans (hb1.mono HBQ.out.size)
  have HX1 := hide2 (HXQ.out.below hb1 hobq)
  clear hb1
  have b0 := HX1.out.cell (j := 0) rfl
  have b1 := HX1.out.cell (j := 1) rfl
  have b2 := HX1.out.cell (j := 2) rfl
  have hob1 := HX1.out.lt
  go_wp2_with fail
  refine (kside_any pb ph gc bb G R _ _ vF B k ((s : Int) + 1) (x.p + 16 * gr) (x.p + 16 * gr) w1 (HK.out.below HB1.out) HOK.out HKK.out HAB.out (by rw [HGR.out]; exact HAB2.out) (by omega) (by omega) (by omega)).mono ?_
  rintro e1 w2 ⟨rfl, hb2⟩
  have HB2 : Hid (Below w.heap.size w w2) := HB1.out.trans (hb2.mono HB1.out.size)
  clear hb2 b0 b1 b2
  go_wp2
  go_ret
  exact ⟨rfl, HB2.out⟩
end Go.Proofs.Ytjikemhmnkckcaa
/- Stale. -/
namespace Go.Proofs.Ytjikemhmnkckcaa
open Go.RowKit

set_option maxRecDepth 100000 in
set_option maxHeartbeats 3200000 in
theorem stale_any (st rest : Int) (a : Option Addr) (cap : Nat) (cls : List (Int × Int)) (ta : Option Addr) (tlen tcap : Nat) (u : Nat → Nat → Int) (w : World) (h : CRow w a cap cls) (b0 : -9223372036854775808 ≤ st) (b1 : st ≤ 9223372036854775807) (b2 : -9223372036854775808 ≤ rest) (b3 : rest ≤ 9223372036854775807) (hs : TRow w ta tlen tcap u) (hl : tlen ≤ 1048576) :
    Calls Try.prog 10 #[.agg #[.int .i64 st, .int .i64 rest, .slice a cls.length cap], .slice ta tlen tcap] w fun e w' => e = .returned (.bool true) ∧ Below w.heap.size w w' := by
  have HC := hide2 h
  have HS := hide2 hs
  have HBB := hide2 (And.intro (And.intro b0 b1) (And.intro b2 b3))
  clear h hs b0 b1 b2 b3
  go_enter Try.func10, Try.ntmps10
  go_wp2_with fail
  obtain ⟨wa, hwa⟩ : ∃ wa, wa = w.alloc (.cells #[.int .i64 st, .int .i64 rest, .slice a cls.length cap] 24) := ⟨_, rfl⟩
  rw [← hwa]
  have HBA : Hid (Below w.heap.size w wa) := by show Below _ _ _; rw [hwa]; exact (Below.refl _ _).alloc (Nat.le_refl _) _
  clear hwa
  refine (kopen_any st rest a cap cls wa (HC.out.below HBA.out) HBB.out.1.1 HBB.out.1.2 HBB.out.2.1 HBB.out.2.2).mono ?_
  rintro e w1 ⟨pb, rfl, hn⟩
  have HN := hide2 hn
  clear hn
  go_wp2_with fail
  refine (kplays_any wa pb ta tlen tcap u false w1 HN.out (HS.out.below HBA.out) hl).mono ?_
  rintro e w2 ⟨rfl, hi⟩
  have HBL : Hid (Below w.heap.size w w2) := HBA.out.trans (hi.bel.mono HBA.out.size)
  obtain ⟨ph, gc, bb, G, R, vc, vL, vF, B, hK, hok, hL, -, -, -, -, -⟩ := hi
  have HK := hide2 hK
  have HOK := hide2 hok
  have hpb := hK.blk.lt
  have hlen : B.L.length ≤ 1048577 := by omega
  clear HN hK hok hL
  obtain ⟨al, capL, rfl, hcapL, hmaxL, hrow⟩ := row_open HK.out.L
  unfold maxLen at hmaxL
  have HROW := hide2 hrow
  clear hrow
  go_wp2_with fail
  go_loopw [7] (fun i wr => ∃ n : Nat, n ≤ B.L.length ∧ i = .int .i64 (n : Int) ∧ Below w2.heap.size w2 wr) (fun i _ => ((B.L.length : Int) - intOf i).toNat)
  case atStart => exact ⟨0, by omega, rfl, Below.refl _ _⟩
  case round =>
    obtain ⟨n, hn, rfl, hb⟩ := hrel
    have HB := hide2 hb
    have HK1 := hide2 (HK.out.below hb)
    have c4 := HK1.out.blk.cell (j := 4) rfl
    have hp1 : pb < wr.heap.size := HK1.out.blk.lt
    clear hb
    by_cases hlt : n < B.L.length
    · have hl2 : (n : Int) < (B.L.length : Int) := by omega
      have h0 : (0 : Int) ≤ (n : Int) := by omega
      go_wp2_with fail
      refine (kinside_any pb ph gc bb G R vc _ vF B n wr HK1.out HOK.out hlt).mono ?_
      rintro e w3 ⟨rfl, hb3⟩
      have HB3 : Hid (Below w2.heap.size w2 w3) := HB.out.trans (hb3.mono HB.out.size)
      have HK3 := hide2 (HK1.out.below hb3)
      clear hb3 c4
      go_wp2_with fail
      refine (klater_any pb _ _ _ _ _ _ _ B.L n w3 HK3.out.blk HK3.out.L hlt).mono ?_
      rintro e w4 ⟨rfl, hb4⟩
      have HB4 : Hid (Below w2.heap.size w2 w4) := HB3.out.trans (hb4.mono HB3.out.size)
      have HK4 := hide2 (HK3.out.below hb4)
      clear hb4
      by_cases hz : klater B.L n = 0
      · have HZ := hide2 hz
        have hzI : ((klater B.L n : Int) == 0) = true := by rw [hz]; rfl
        clear hz
        go_wp2_with fail
        refine (kbeside_any pb ph gc bb G R vc _ vF B n w4 HK4.out HOK.out hlt HZ.out).mono ?_
        rintro e w5 ⟨rfl, hb5⟩
        have HB5 : Hid (Below w2.heap.size w2 w5) := HB4.out.trans (hb5.mono HB4.out.size)
        clear hb5
        go_wp2
        go_roundw
        case rel => exact ⟨n + 1, by omega, by go_num, HB5.out⟩
        case measure => simp [intOf]; omega
      · have hzI : ((klater B.L n : Int) == 0) = false := by rw [beq_eq_false_iff_ne]; omega
        clear hz
        go_wp2
        go_roundw
        case rel => exact ⟨n + 1, by omega, by go_num, HB4.out⟩
        case measure => simp [intOf]; omega
    · obtain rfl : n = B.L.length := by omega
      go_wp2
      go_ret
      exact ⟨rfl, HBL.out.trans (HB.out.mono HBL.out.size)⟩
end Go.Proofs.Ytjikemhmnkckcaa
/- A configuration among the arguments, opened. -/
namespace Go.Proofs.Ytjikemhmnkckcaa
open Go.ChangeShapes Go.WideShapes Go.ChangeAt Go.RowKit Go.Joins Go.Deep

theorem bytes_cls : Try.prog.bytesOf 67 = 16 := by kernel_rfl
theorem cells_cls : Try.prog.cellsOf 67 = 2 := by kernel_rfl
theorem cells_conf : Try.prog.cellsOf 24 = 3 := by kernel_rfl
theorem cells_int : Try.prog.cellsOf 3 = 1 := by kernel_rfl

theorem addr_add (g off j : Nat) : (⟨g, off, none⟩ : Addr).add j = ⟨g, off + j, none⟩ := by unfold Addr.add; split <;> simp_all

set_option maxRecDepth 100000 in
theorem open_conf {H : Type} {enc : TypeId × Value → H} {W : World} {base b0 : Nat} {sp : Nat → Bool} {held : Bool} {v : Value} {d : DataW H} {p : List MemPlace}
    (hv : Value.okWide Try.prog W .any b0 24 v) (h : DataW.Trod enc Try.prog W base sp held 24 v d p) :
    ∃ (st rest : Int) (a : Option Addr) (cap : Nat) (cls : List (Int × Int)), v = .agg #[.int .i64 st, .int .i64 rest, .slice a cls.length cap] ∧ CRow W a cap cls ∧
      ((DataW.weights Try.prog 24 d).all (· ≤ reachBytes) = true → cls.length * 16 ≤ 140737488351232) := by
  obtain ⟨v0, v1, v2, y0, y1, y2, n, rfl, rfl, rfl, h0, h1, h2⟩ := open_agg3 Try.underlying24 (by kernel_rfl) cells_conf hv h
  obtain ⟨st, e0, rfl, w0⟩ := DataW.trod_int Try.underlying3 h0
  obtain ⟨rest, e1, rfl, w1⟩ := DataW.trod_int Try.underlying3 h1
  simp only [List.cons.injEq, and_true] at e0 e1
  subst e0 e1
  rcases open_slice_pairs Try.underlying22 Try.underlying67 cells_cls rfl rfl cells_int cells_int h2 with ⟨e2, rfl⟩ | ⟨a, len, cap, m, n', V0, V1, D0, D1, P0, P1, e2, _, hl, hm, hmm, rfl, hx⟩
  · simp only [List.cons.injEq, and_true] at e2
    subst e2
    exact ⟨st, rest, none, 0, [], rfl, ⟨Nat.le_refl _, by simp [maxLen], fun h => absurd h (by simp)⟩, fun _ => by simp⟩
  · simp only [List.cons.injEq, and_true] at e2
    subst e2
    have hlm : len ≤ m := by rw [hmm]; split <;> omega
    have each : ∀ i, i < len → ∃ q : Int × Int, V0 i = .int .i64 q.1 ∧ V1 i = .int .i64 q.2 := fun i hi => by
      obtain ⟨_, _, hx0, hx1⟩ := hx i (by omega)
      obtain ⟨x, ex, _, _⟩ := DataW.trod_int Try.underlying3 hx0
      obtain ⟨y, ey, _, _⟩ := DataW.trod_int Try.underlying3 hx1
      simp only [List.cons.injEq, and_true] at ex ey
      exact ⟨(x, y), ex, ey⟩
    obtain ⟨q, hq⟩ := choose_lt each
    refine ⟨st, rest, some a, cap, (List.range len).map q, by simp, ⟨by simpa using hl, hm, fun h0 => ?_⟩, fun hw => ?_⟩
    · simp only [List.length_map, List.length_range] at h0
      obtain ⟨g, off, spot⟩ := a
      have hc0 := (hx 0 (by omega)).1
      have hspot : spot = none := by simpa [Addr.add] using World.cell?_spot hc0
      subst hspot
      refine ⟨g, off, rfl, ?_, fun i hi => ?_⟩
      · have := World.block_lt_of_cell? W _ hc0
        simpa [Addr.add] using this
      · simp only [List.length_map, List.length_range] at hi
        obtain ⟨c0, c1, _, _⟩ := hx i (by omega)
        have hqi := hq i hi
        rw [hqi.1] at c0
        rw [hqi.2] at c1
        have eg : ((List.range len).map q).getD i (0, 0) = q i := by simp [List.getD_eq_getElem?_getD, hi]
        constructor
        · show W.cell? ⟨g, off + i * 2, none⟩ = some (.int .i64 (((List.range len).map q).getD i (0, 0)).1)
          rw [eg, ← addr_add]; exact c0
        · show W.cell? ⟨g, off + i * 2 + 1, none⟩ = some (.int .i64 (((List.range len).map q).getD i (0, 0)).2)
          rw [eg, Nat.add_assoc, ← addr_add]; exact c1
    · have hmem : (len + (m - len)) * 16 ≤ reachBytes := by
        have := List.all_eq_true.1 hw ((len + (m - len)) * 16) (by simp [DataW.weights, DataW.weightsEach, Try.underlying24, Try.underlying22, bytes_cls])
        simpa using this
      simp only [reachBytes] at hmem
      simp only [List.length_map, List.length_range]
      omega
end Go.Proofs.Ytjikemhmnkckcaa
