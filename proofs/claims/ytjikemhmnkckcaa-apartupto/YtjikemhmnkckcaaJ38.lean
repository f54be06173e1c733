import Derived.Test.YtjikemhmnkckcaaJ37
import Derived.Deep.RegionHeld3
/- A block joins the book: came. -/
namespace Go.Proofs.Ytjikemhmnkckcaa
open Go.RowKit

set_option maxRecDepth 100000 in
set_option maxHeartbeats 3200000 in
theorem kcame_yes (pb ph : Nat) (gc : Value) (bb : Nat) (G : GSt) (vc vL vF : Value) (B : KSt) (size : Int) (k s tg : Nat) (w : World) (h : KRep w pb ph gc bb G vc vL vF B) (hv : Cf.Valid B.st B.rest B.cls)
    (hg : gcls B.cls size = (k : Int)) (hk : k < B.cls.length) (hs : s < (Cf.sl B.cls k).toNat) (t0 : 1 ≤ tg) (t1 : tg ≤ 14) (h1 : 1 ≤ size) (hz : size ≤ 16 * Cf.gr B.cls k) (hlive : klive B.L k s = false) (hrest : krests B.F B.rest k s = false)
    (hroom : B.L.length ≤ 1000000000) :
    Calls Try.prog 30 #[.pointer (some ⟨pb, 0, none⟩), .int .i64 ((tg : Int) * 72057594037927936 + Cf.begin_ B.st B.cls k s), .int .i64 0, .int .i64 size] w fun e w' => ∃ vL' wb, e = .returned (.bool true) ∧
      KRep w' pb ph gc bb G vc vL' vF ⟨B.st, B.rest, B.cls, B.L ++ [⟨(tg : Int) * 72057594037927936 + Cf.begin_ B.st B.cls k s, k, s, List.replicate (16 * Ref.gsz size).toNat 0, wb, true, B.now, 0⟩], B.F, B.now⟩ ∧
      Kept w w' (fun b => b = pb ∨ vL.ownBlock = some b) ∧ (∀ b, vL'.ownBlock = some b → vL.ownBlock = some b ∨ w.heap.size ≤ b) ∧ w.heap.size ≤ wb := by
  obtain ⟨i0, hi0, hz0, hz1, hz2⟩ := info_parts info_kblk
  obtain ⟨i8, hi8, hy0, hy1, hy2⟩ := info_parts info_int
  obtain ⟨a, cap, rfl, hc⟩ := h.crow
  have HK := hide2 h
  have HC := hide2 hc
  have HV := hide2 hv
  have HG := hide2 hg
  have HLV := hide2 hlive
  have HRS := hide2 hrest
  have hpb := h.blk.lt
  have c0 := h.blk.cell (j := 0) rfl
  have c1 := h.blk.cell (j := 1) rfl
  have c2 := h.blk.cell (j := 2) rfl
  have hbe := Cf.begin_bd hv k hk s (by omega) (by have := hv.s1 k hk; omega)
  have hs16 : (s : Int) ≤ 16 := by have := hv.s1 k hk; omega
  have hg8 := hv.g1 k hk
  have hr1 := hv.re1
  have HSL : Hid (Cf.slot B.st B.cls (Cf.begin_ B.st B.cls k s) = ((k : Int), (s : Int))) := Cf.slot_found hv _ k s hk hs (Cf.inS_begin hv k s hk)
  obtain ⟨be, hbeq⟩ : ∃ be, be = Cf.begin_ B.st B.cls k s := ⟨_, rfl⟩
  have HBE := hide2 hbeq
  rw [← hbeq] at hbe HSL
  rw [← hbeq]
  obtain ⟨q, hq⟩ : ∃ q : Int, q = (tg : Int) * 72057594037927936 + be := ⟨_, rfl⟩
  have HQ := hide2 hq
  rw [← hq]
  have qm : q % 72057594037927936 = be := by omega
  have qd : q / 72057594037927936 = (tg : Int) := by omega
  have q0 : 72057594037927936 ≤ q := by omega
  have qlt : q ≤ 9000000000000000000 := by omega
  have hbI : (tg : Int) ≤ 14 := by omega
  obtain ⟨nb, hnb⟩ := Int.eq_ofNat_of_zero_le (show 0 ≤ 16 * Ref.gsz size by unfold Ref.gsz; omega)
  have hnb8 : nb ≤ 128 := by unfold Ref.gsz at hnb; omega
  have HNB := hide2 hnb
  obtain ⟨mc, hmc, hmk⟩ : ∃ mc : List Value, Hid (mc = (List.replicate nb (0 : Int)).map (Value.int .i64)) ∧ ∀ w : World, (Instr.makeSlice 30 (.int .i64 (nb : Int)) (.int .i64 (nb : Int))).run Try.prog w = .ok (.slice (some ⟨w.heap.size, 0, none⟩) nb nb) (w.alloc (.cells mc.toArray 3)) := by
    refine ⟨(madeCells #[.int .i64 0] nb).toList, ?_, fun w => ?_⟩
    · show _ = _
      rw [toList_madeCells_one]; simp
    · have hr := run_make (P := Try.prog) w 30 3 i8 _ Try.underlying30 hi8 hy0 .i64 .i64 (nb : Int) (nb : Int) (by omega) (by omega) (by rw [hy2]; omega) (by omega)
      rw [hr, hy1]
      simp [Value.cells]
  have hkk : ((k : Int) != (k : Int)) = false := by simp
  have hbb : (be != be) = false := by simp
  clear h hc hv hg hlive hrest hq hbeq hnb hi8 hy0 hy1 hy2
  go_enter Try.func30, Try.ntmps30
  go_wp2_with fail
  refine (kclass_any B.st B.rest a cap B.cls size w HV.out HC.out).mono ?_
  rw [HG.out]
  rintro e1 w1 ⟨rfl, hb1⟩
  have hp1 : pb < w1.heap.size := Nat.lt_of_lt_of_le hpb hb1.size
  have c0a := (hb1.cell (p := ⟨pb, 0, none⟩) hpb).trans c0
  have c1a := (hb1.cell (p := ⟨pb, 1, none⟩) hpb).trans c1
  have c2a := (hb1.cell (p := ⟨pb, 2, none⟩) hpb).trans c2
  clear c0 c1 c2
  go_wp2_with fail
  refine (kspot_any B.st B.rest a cap B.cls be w1 HV.out (HC.out.below hb1) (by omega) (by omega)).mono ?_
  rw [HSL.out]
  rintro e1 w2 ⟨rfl, hb2'⟩
  have hb2 : Below w.heap.size w w2 := hb1.trans (hb2'.mono hb1.size)
  have hp2 : pb < w2.heap.size := Nat.lt_of_lt_of_le hpb hb2.size
  have c0b := (hb2'.cell (p := ⟨pb, 0, none⟩) hp1).trans c0a
  have c1b := (hb2'.cell (p := ⟨pb, 1, none⟩) hp1).trans c1a
  have c2b := (hb2'.cell (p := ⟨pb, 2, none⟩) hp1).trans c2a
  clear c0a c1a c2a hb2' hb1
  go_wp2_with fail
  refine (kbegin_any B.st B.rest a cap B.cls k s w2 HV.out (HC.out.below hb2) (by omega) (by omega) (by omega) (by omega)).mono ?_
  rw [Int.toNat_natCast, ← HBE.out]
  rintro e1 w3 ⟨rfl, hb3'⟩
  have hb3 : Below w.heap.size w w3 := hb2.trans (hb3'.mono hb2.size)
  have HK3 := hide2 (HK.out.below hb3)
  clear c0b c1b c2b hb3' hb2
  go_wp2_with fail
  refine (klive_any pb _ _ _ _ vL _ _ B.L k s w3 HK3.out.blk HK3.out.L).mono ?_
  rw [HLV.out]
  rintro e1 w4 ⟨rfl, hb4'⟩
  have hb4 : Below w.heap.size w w4 := hb3.trans (hb4'.mono hb3.size)
  have HK4 := hide2 (HK.out.below hb4)
  clear hb4' hb3
  go_wp2_with fail
  refine (krests_any pb _ _ _ _ vF _ B.rest B.F k s w4 HK4.out.blk HK4.out.F (by omega)).mono ?_
  rw [HRS.out]
  rintro e1 w5 ⟨rfl, hb5'⟩
  have hb5 : Below w.heap.size w w5 := hb4.trans (hb5'.mono hb4.size)
  have HK5 := hide2 (HK.out.below hb5)
  clear hb5' hb4
  go_wp2_with fail
  refine (kwhole_any size w5 h1 (by omega)).mono ?_
  rw [HNB.out]
  rintro e1 w6 ⟨rfl, rfl⟩
  go_wp2_with fail
  have hblk5 := HK5.out.blk
  have c4 := hblk5.cell (j := 4) rfl
  have c6 := hblk5.cell (j := 6) rfl
  have cf4 := hblk5.frozen 4
  have hp5 := hblk5.lt
  obtain ⟨wM, hwM⟩ : ∃ wM, wM = w5.alloc (.cells mc.toArray 3) := ⟨_, rfl⟩
  rw [← hwM]
  have hsM : wM.heap.size = w5.heap.size + 1 := by rw [hwM, World.size_alloc]
  have hbM : Below w5.heap.size w5 wM := by rw [hwM]; exact (Below.refl _ _).alloc (Nat.le_refl _) _
  have HBM : Hid (Blk wM w5.heap.size 3 ((List.replicate nb (0 : Int)).map (Value.int .i64))) := by
    show Blk _ _ _ _
    rw [hwM, ← hmc.out]; exact Blk.alloc _ _ _
  have c4M := (hbM.cell (p := ⟨pb, 4, none⟩) hp5).trans c4
  have c6M := (hbM.cell (p := ⟨pb, 6, none⟩) hp5).trans c6
  have cf4M : wM.frozen? ⟨pb, 4, none⟩ = false := by rw [hwM, World.frozen?_alloc_old _ _ _ (by show pb ≠ _; omega)]; exact cf4
  have hpM : pb < wM.heap.size := by omega
  have hrow : Hid (wM.ownsRow 0 53 7 vL B.L.length (B.L.flatMap kblkCells)) := row_below HK5.out.L hbM (fun g hg => row_lt HK5.out.L hg)
  have HLT : Hid (∀ g, vL.ownBlock = some g → g < w5.heap.size) := fun g hg => row_lt HK5.out.L hg
  have HAP : Hid (vL.ownBlock ≠ some pb) := fun e => by
    obtain ⟨col, hs⟩ := HK5.out.sep
    have := hs.vL pb e
    rw [hs.pb] at this; omega
  have HSM := hide2 hsM
  clear hblk5 c4 c6 cf4 hwM hmk hsM
  go_region_law ((refine step_append_lies _ (by rfl) _ _ _ (by rfl) 0 53 i0 _ 7 72 Try.underlying48 hi0 hz0 hz1 hz2 rfl (by omega) vL B.L.length (B.L.flatMap kblkCells) (by rfl) ((hrow.out.alloc _).drew) ⟨wM.heap.size, 0, none⟩ 1 1 [.int .i64 q, .int .i64 (k : Int), .int .i64 (s : Int), .slice (some ⟨w5.heap.size, 0, none⟩) nb nb, .bool true, .int .i64 B.now, .int .i64 0] (by rfl) (by rfl) (World.news_of_block (cs := #[.int .i64 q, .int .i64 (k : Int), .int .i64 (s : Int), .slice (some ⟨w5.heap.size, 0, none⟩) nb nb, .bool true, .int .i64 B.now, .int .i64 0]) (t := 53) (fr := (0, 0)) (heap_alloc_new wM _)) (by simp [Value.oneCell']) (by omega) (by simp [maxLen]; omega) (by omega) (by simp) (wM.heap.size + 1) (by simp) ?_; intro gg cap2 w7 hown hgrow hat hlt7; have c4' : w7.cell? ⟨pb, 4, none⟩ = some vL := (by rw [hgrow.cell_far _ (by simp; omega) (fun e => HAP.out e.symm), World.cell?_drew, World.cell?_alloc_lt _ _ _ hpM]; exact c4M); have f4' : w7.frozen? ⟨pb, 4, none⟩ = false := (by rw [hgrow.frozen_far _ (by simp; omega) (fun e => HAP.out e.symm), World.frozen?_drew, World.frozen?_alloc_old _ _ _ (by show pb ≠ _; omega)]; exact cf4M)))
  all_goals
    have hsM := HSM.out
    have hg7 : (wM.alloc (.cells #[.int .i64 q, .int .i64 (k : Int), .int .i64 (s : Int), .slice (some ⟨w5.heap.size, 0, none⟩) nb nb, .bool true, .int .i64 B.now, .int .i64 0] 53)).grownBy w7 vL.ownBlock := ⟨hgrow.os, hgrow.tape, hgrow.output, hgrow.size, hgrow.block⟩
    have hs7 := hg7.size
    rw [World.size_alloc] at hs7
    have hk7 : Kept w5 w7 (fun b => vL.ownBlock = some b) := ⟨hg7.os.trans hbM.os, hg7.tape.trans hbM.tape, hg7.output.trans hbM.output, by omega, fun b hb hn => by
      rw [hg7.block b (by rw [World.size_alloc]; omega) (fun e => hn e.symm)]
      exact (Below.heap_alloc wM _ b (by omega)).trans (hbM.block b hb)⟩
    have hx7 : Blk w7 w5.heap.size 3 ((List.replicate nb (0 : Int)).map (Value.int .i64)) := by
      have e1 := hg7.block w5.heap.size (by rw [World.size_alloc]; omega) (fun e => by have := HLT.out _ e.symm; omega)
      exact (e1.trans (Below.heap_alloc wM _ w5.heap.size (by omega))).trans HBM.out
    have hpush := HK5.out.push ⟨q, k, s, List.replicate nb 0, w5.heap.size, true, B.now, 0⟩ (by rw [show kblkCells ⟨q, k, s, List.replicate nb 0, w5.heap.size, true, B.now, 0⟩ = [.int .i64 q, .int .i64 (k : Int), .int .i64 (s : Int), .slice (some ⟨w5.heap.size, 0, none⟩) nb nb, .bool true, .int .i64 B.now, .int .i64 0] by simp [kblkCells]]; exact hown) hk7 hx7 (Nat.le_refl _) (hat.imp id (fun e => by show w5.heap.size < gg; omega))
    clear hg7 hk7 hx7
    go_wp2
    go_ret
    refine ⟨_, w5.heap.size, rfl, by rw [HNB.out, Int.toNat_natCast]; exact hpush.1, (Kept.of_below hb5 _).trans hpush.2.1, fun b hb => ?_, hb5.size⟩
    simp [Value.ownBlock] at hb
    subst hb
    exact hpush.2.2.imp id (fun e => Nat.le_trans hb5.size e)
end Go.Proofs.Ytjikemhmnkckcaa
/- The book: a block stands. -/
namespace Go.Proofs.Ytjikemhmnkckcaa
open Go.RowKit

/-- a live block stands: its length, its bytes -/
def Stands (R : RSt) (x : KBlk) : Prop := R.usable x.p = ((x.want.length : Int), 0) ∧ ∀ j : Nat, j < x.want.length → R.load (x.p + j) 1 = (x.want.getD j 0, 0)

set_option maxRecDepth 100000 in
set_option maxHeartbeats 3200000 in
theorem kstands_any (pb ph : Nat) (gc : Value) (bb : Nat) (G : GSt) (R : RSt) (vc vL vF : Value) (B : KSt) (i : Nat) (w : World) (h : KRep w pb ph gc bb G vc vL vF B) (hS : SimB G R) (hi : i < B.L.length) (hst : Stands R (B.L.getD i KBlk.no)) (hlen : (B.L.getD i KBlk.no).want.length ≤ 128) (p0 : 0 ≤ (B.L.getD i KBlk.no).p) (p1 : (B.L.getD i KBlk.no).p ≤ 2000000000000000000) :
    Calls Try.prog 24 #[.pointer (some ⟨pb, 0, none⟩), .int .i64 (i : Int)] w fun e w' => e = .returned (.bool true) ∧ Below w.heap.size w w' := by
  obtain ⟨al, cap, rfl, hcap, hmax, hrow⟩ := row_open h.L
  obtain ⟨g, rfl, hgl, hcell, hfrz⟩ := hrow (by omega)
  unfold maxLen at hmax
  have HK := hide2 h
  have HS := hide2 hS
  have hpb := h.blk.lt
  have c3 := h.blk.cell (j := 3) rfl
  have c4 := h.blk.cell (j := 4) rfl
  obtain ⟨d0, d1, d2, d3, d4, d5, d6⟩ := kblk_cells hcell i hi
  have hwant := hide2 (h.want i hi)
  have hwlt := (h.want i hi).lt
  have hiI : (i : Int) < (B.L.length : Int) := by omega
  have HG := hide2 h.heap
  generalize B.L.getD i KBlk.no = x at *
  have HU := hide2 hst.1
  have HL := hide2 hst.2
  clear h hS hrow hcell hfrz hst
  go_enter Try.func24, Try.ntmps24
  go_wp2_with fail
  obtain ⟨wa, hwa⟩ : ∃ wa, wa = w.alloc (.cells #[.int .i64 x.p, .int .i64 x.k, .int .i64 x.s, .slice (some ⟨x.wb, 0, none⟩) x.want.length x.want.length, .bool x.live, .int .i64 x.site, .int .i64 x.gone] 53) := ⟨_, rfl⟩
  rw [← hwa]
  have hba : Below w.heap.size w wa := by rw [hwa]; exact (Below.refl _ _).alloc (Nat.le_refl _) _
  have hsa : wa.heap.size = w.heap.size + 1 := by rw [hwa, World.size_alloc]
  have HX : Hid (Blk wa w.heap.size 53 [.int .i64 x.p, .int .i64 x.k, .int .i64 x.s, .slice (some ⟨x.wb, 0, none⟩) x.want.length x.want.length, .bool x.live, .int .i64 x.site, .int .i64 x.gone]) := by rw [hwa]; exact Blk.alloc _ _ _
  have b0 := HX.out.cell (j := 0) rfl
  have b3 := HX.out.cell (j := 3) rfl
  have c3a := (hba.cell (p := ⟨pb, 3, none⟩) hpb).trans c3
  have hob : w.heap.size < wa.heap.size := by omega
  have hpa : pb < wa.heap.size := by omega
  have HBA := hide2 hba
  clear hwa c3 c4 d0 d1 d2 d3 d4 d5 d6 hba hsa
  obtain ⟨ob, hobe⟩ : ∃ ob, ob = w.heap.size := ⟨_, rfl⟩
  rw [← hobe] at b0 b3 hob HX ⊢
  have HXO := hide2 hobe
  clear hobe
  go_region_held3 (fun w' => w'.cell? ⟨pb, 3, none⟩ = some (.pointer (some ⟨ph, 0, none⟩)) ∧ w'.cell? ⟨ob, 0, none⟩ = some (.int .i64 x.p)) (go_keep)
    (first | (go_at_call 56; refine (gusable_any ph gc bb G R x.p wa.drew ((HG.out.below HBA.out).kept (fun _ _ => rfl)) HS.out.sim (by omega)).mono ?_; rw [HU.out]; rintro e w1 ⟨rfl, hb1⟩; have c3' : w1.cell? ⟨pb, 3, none⟩ = some (.pointer (some ⟨ph, 0, none⟩)) := (hb1.cell (p := ⟨pb, 3, none⟩) hpa).trans c3a; have b0' : w1.cell? ⟨ob, 0, none⟩ = some (.int .i64 x.p) := (hb1.cell (p := ⟨ob, 0, none⟩) hob).trans b0; have HB1 : Hid (Below wa.heap.size wa w1) := ⟨hb1.os, hb1.tape, hb1.output, hb1.size, hb1.block⟩; clear hb1))
  have b3' := (HB1.out.cell (p := ⟨ob, 3, none⟩) hob).trans b3
  have hs1 := HB1.out.size
  have HBW : Hid (Below w.heap.size w w1) := HBA.out.trans (HB1.out.mono HBA.out.size)
  clear c3a b0 b3
  have hnn : ((x.want.length : Int) != (x.want.length : Int)) = false := by simp
  go_wp2
  go_loopw [8] (fun j wr => ∃ m : Nat, m ≤ x.want.length ∧ j = .int .i64 (m : Int) ∧ Below w.heap.size w wr ∧ wr.cell? ⟨ob, 0, none⟩ = some (.int .i64 x.p) ∧ wr.cell? ⟨ob, 3, none⟩ = some (.slice (some ⟨x.wb, 0, none⟩) x.want.length x.want.length) ∧ ob < wr.heap.size) (fun j _ => x.want.length - (intOf j).toNat)
  case atStart => exact ⟨0, by omega, rfl, HBW.out, b0', b3', by omega⟩
  case round =>
    obtain ⟨m, hm, rfl, hb, b0r, b3r, hobr⟩ := hrel
    have hpr : pb < wr.heap.size := Nat.lt_of_lt_of_le hpb hb.size
    have c3r : wr.cell? ⟨pb, 3, none⟩ = some (.pointer (some ⟨ph, 0, none⟩)) := (hb.cell (p := ⟨pb, 3, none⟩) hpb).trans (HK.out.blk.cell (j := 3) rfl)
    have HBR := hide2 hb
    clear b0' b3' c3' hb
    by_cases hlt : m < x.want.length
    · have hI : (m : Int) < (x.want.length : Int) := by omega
      have HLD := hide2 (HL.out m hlt)
      have HWM : Hid (∀ w9 : World, Below w.heap.size w w9 → w9.cell? ⟨x.wb, m, none⟩ = some (.int .i64 (x.want.getD m 0))) := fun w9 h9 => by
        rw [h9.cell (p := ⟨x.wb, m, none⟩) hwlt]
        refine hwant.out.cell ?_
        rw [List.getElem?_map, List.getElem?_eq_getElem hlt]
        simp [List.getD_eq_getElem?_getD, List.getElem?_eq_getElem hlt]
      have e1 : (x.want.getD m 0 != x.want.getD m 0) = false := by simp
      have m0 : (0 : Int) ≤ (m : Int) := by omega
      have hxm : x.p + (m : Int) ≤ 9223372036854775807 := by omega
      have hxw : IntKind.i64.wrap (x.p + (m : Int)) = x.p + (m : Int) := by rw [IntKind.wrap_i64]; omega
      generalize x.want.getD m 0 = wm at *
      go_wp2_with fail
      go_region_held3 (fun w' => w'.cell? ⟨pb, 3, none⟩ = some (.pointer (some ⟨ph, 0, none⟩)) ∧ w'.cell? ⟨ob, 0, none⟩ = some (.int .i64 x.p)) (go_keep)
        (first | (go_at_call 32; refine (gload_any ph gc bb G R (x.p + (m : Int)) 1 wr.drew ((HG.out.below HBR.out).kept (fun _ _ => rfl)) HS.out hxm).mono ?_; rw [HLD.out]; rintro e w2 ⟨rfl, hb2⟩; have c3' : w2.cell? ⟨pb, 3, none⟩ = some (.pointer (some ⟨ph, 0, none⟩)) := (hb2.cell (p := ⟨pb, 3, none⟩) hpr).trans c3r; have b0' : w2.cell? ⟨ob, 0, none⟩ = some (.int .i64 x.p) := (hb2.cell (p := ⟨ob, 0, none⟩) hobr).trans b0r; have HB2 : Hid (Below wr.heap.size wr w2) := ⟨hb2.os, hb2.tape, hb2.output, hb2.size, hb2.block⟩; clear hb2))
      have b3s := (HB2.out.cell (p := ⟨ob, 3, none⟩) hobr).trans b3r
      have HBN : Hid (Below w.heap.size w w2) := HBR.out.trans (HB2.out.mono HBR.out.size)
      have hwm := HWM.out w2 HBN.out
      have hs2 := HB2.out.size
      clear c3r b0r b3r
      go_wp2
      go_roundw
      case rel => exact ⟨m + 1, by omega, by go_num, HBN.out, b0', b3s, by omega⟩
      case measure => simp [intOf]; omega
    · obtain rfl : m = x.want.length := by omega
      go_wp2
      go_ret
      exact ⟨rfl, HBR.out⟩
end Go.Proofs.Ytjikemhmnkckcaa
