import Derived.Test.YtjikemhmnkckcaaJ34
import Derived.Deep.RegionHeld3
import Derived.Test.YtjikemhmnkckcaaJ33
/- A block joins the book: came. -/
namespace Go.Proofs.Ytjikemhmnkckcaa
open Go.RowKit

set_option maxRecDepth 100000 in
set_option maxHeartbeats 3200000 in
theorem kcame_yes (pb ph : Nat) (gc : Value) (bb : Nat) (G : GSt) (vc vL vF : Value) (B : KSt) (size : Int) (k s tg : Nat) (w : World) (h : KRep w pb ph gc bb G vc vL vF B) (hv : Cf.Valid B.st B.rest B.cls)
    (hg : gcls B.cls size = (k : Int)) (hk : k < B.cls.length) (hs : s < (Cf.sl B.cls k).toNat) (t0 : 1 ≤ tg) (t1 : tg ≤ 14) (h1 : 1 ≤ size) (hz : size ≤ 16 * Cf.gr B.cls k) (hlive : klive B.L k s = false) (hrest : krests B.F B.rest k s = false)
    (hroom : B.L.length ≤ 1000000000) :
    Calls Try.prog 30 #[.pointer (some ⟨pb, 0, none⟩), .int .i64 ((tg : Int) * 72057594037927936 + Cf.begin_ B.st B.cls k s), .int .i64 0, .int .i64 size] w fun e w' => ∃ vL' wb, e = .returned (.bool true) ∧
      KRep w' pb ph gc bb G vc vL' vF ⟨B.st, B.rest, B.cls, B.L ++ [⟨(tg : Int) * 72057594037927936 + Cf.begin_ B.st B.cls k s, k, s, List.replicate (16 * Ref.gsz size).toNat 0, wb, true, B.now, 0⟩], B.F, B.now⟩ ∧
      Kept w w' (fun b => b = pb ∨ vL.ownBlock = some b) ∧ (∀ b, vL'.ownBlock = some b → vL.ownBlock = some b ∨ w.heap.size ≤ b) ∧ w.heap.size ≤ wb := by
  obtain ⟨i0, hi0, hz0, hz1, hz2⟩ := info_parts info_kblk
  obtain ⟨i8, hi8, hy0, hy1, hy2⟩ := info_parts info_int
  obtain ⟨a, cap, rfl, hc⟩ := h.crow
  have HK := hide2 h
  have HC := hide2 hc
  have HV := hide2 hv
  have HG := hide2 hg
  have HLV := hide2 hlive
  have HRS := hide2 hrest
  have hpb := h.blk.lt
  have c0 := h.blk.cell (j := 0) rfl
  have c1 := h.blk.cell (j := 1) rfl
  have c2 := h.blk.cell (j := 2) rfl
  have hbe := Cf.begin_bd hv k hk s (by omega) (by have := hv.s1 k hk; omega)
  have hs16 : (s : Int) ≤ 16 := by have := hv.s1 k hk; omega
  have hg8 := hv.g1 k hk
  have hr1 := hv.re1
  have HSL : Hid (Cf.slot B.st B.cls (Cf.begin_ B.st B.cls k s) = ((k : Int), (s : Int))) := Cf.slot_found hv _ k s hk hs (Cf.inS_begin hv k s hk)
  obtain ⟨be, hbeq⟩ : ∃ be, be = Cf.begin_ B.st B.cls k s := ⟨_, rfl⟩
  have HBE := hide2 hbeq
  rw [← hbeq] at hbe HSL
  rw [← hbeq]
  obtain ⟨q, hq⟩ : ∃ q : Int, q = (tg : Int) * 72057594037927936 + be := ⟨_, rfl⟩
  have HQ := hide2 hq
  rw [← hq]
  have qm : q % 72057594037927936 = be := by omega
  have qd : q / 72057594037927936 = (tg : Int) := by omega
  have q0 : 72057594037927936 ≤ q := by omega
  have qlt : q ≤ 9000000000000000000 := by omega
  have hbI : (tg : Int) ≤ 14 := by omega
  obtain ⟨nb, hnb⟩ := Int.eq_ofNat_of_zero_le (show 0 ≤ 16 * Ref.gsz size by unfold Ref.gsz; omega)
  have hnb8 : nb ≤ 128 := by unfold Ref.gsz at hnb; omega
  have HNB := hide2 hnb
  obtain ⟨mc, hmc, hmk⟩ : ∃ mc : List Value, Hid (mc = (List.replicate nb (0 : Int)).map (Value.int .i64)) ∧ ∀ w : World, (Instr.makeSlice 30 (.int .i64 (nb : Int)) (.int .i64 (nb : Int))).run Try.prog w = .ok (.slice (some ⟨w.heap.size, 0, none⟩) nb nb) (w.alloc (.cells mc.toArray 3)) := by
    refine ⟨(madeCells #[.int .i64 0] nb).toList, ?_, fun w => ?_⟩
    · show _ = _
      rw [toList_madeCells_one]; simp
    · have hr := run_make (P := Try.prog) w 30 3 i8 _ Try.underlying30 hi8 hy0 .i64 .i64 (nb : Int) (nb : Int) (by omega) (by omega) (by rw [hy2]; omega) (by omega)
      rw [hr, hy1]
      simp [Value.cells]
  have hkk : ((k : Int) != (k : Int)) = false := by simp
  have hbb : (be != be) = false := by simp
  clear h hc hv hg hlive hrest hq hbeq hnb hi8 hy0 hy1 hy2
  go_enter Try.func30, Try.ntmps30
  go_wp2_with fail
  refine (kclass_any B.st B.rest a cap B.cls size w HV.out HC.out).mono ?_
  rw [HG.out]
  rintro e1 w1 ⟨rfl, hb1⟩
  have hp1 : pb < w1.heap.size := Nat.lt_of_lt_of_le hpb hb1.size
  have c0a := (hb1.cell (p := ⟨pb, 0, none⟩) hpb).trans c0
  have c1a := (hb1.cell (p := ⟨pb, 1, none⟩) hpb).trans c1
  have c2a := (hb1.cell (p := ⟨pb, 2, none⟩) hpb).trans c2
  clear c0 c1 c2
  go_wp2_with fail
  refine (kspot_any B.st B.rest a cap B.cls be w1 HV.out (HC.out.below hb1) (by omega) (by omega)).mono ?_
  rw [HSL.out]
  rintro e1 w2 ⟨rfl, hb2'⟩
  have hb2 : Below w.heap.size w w2 := hb1.trans (hb2'.mono hb1.size)
  have hp2 : pb < w2.heap.size := Nat.lt_of_lt_of_le hpb hb2.size
  have c0b := (hb2'.cell (p := ⟨pb, 0, none⟩) hp1).trans c0a
  have c1b := (hb2'.cell (p := ⟨pb, 1, none⟩) hp1).trans c1a
  have c2b := (hb2'.cell (p := ⟨pb, 2, none⟩) hp1).trans c2a
  clear c0a c1a c2a hb2' hb1
  go_wp2_with fail
  refine (kbegin_any B.st B.rest a cap B.cls k s w2 HV.out (HC.out.below hb2) (by omega) (by omega) (by omega) (by omega)).mono ?_
  rw [Int.toNat_natCast, ← HBE.out]
  rintro e1 w3 ⟨rfl, hb3'⟩
  have hb3 : Below w.heap.size w w3 := hb2.trans (hb3'.mono hb2.size)
  have HK3 := hide2 (HK.out.below hb3)
  clear c0b c1b c2b hb3' hb2
  go_wp2_with fail
  refine (klive_any pb _ _ _ _ vL _ _ B.L k s w3 HK3.out.blk HK3.out.L).mono ?_
  rw [HLV.out]
  rintro e1 w4 ⟨rfl, hb4'⟩
  have hb4 : Below w.heap.size w w4 := hb3.trans (hb4'.mono hb3.size)
  have HK4 := hide2 (HK.out.below hb4)
  clear hb4' hb3
  go_wp2_with fail
  refine (krests_any pb _ _ _ _ vF _ B.rest B.F k s w4 HK4.out.blk HK4.out.F (by omega)).mono ?_
  rw [HRS.out]
  rintro e1 w5 ⟨rfl, hb5'⟩
  have hb5 : Below w.heap.size w w5 := hb4.trans (hb5'.mono hb4.size)
  have HK5 := hide2 (HK.out.below hb5)
  clear hb5' hb4
  go_wp2_with fail
  refine (kwhole_any size w5 h1 (by omega)).mono ?_
  rw [HNB.out]
  rintro e1 w6 ⟨rfl, rfl⟩
  go_wp2_with fail
  have hblk5 := HK5.out.blk
  have c4 := hblk5.cell (j := 4) rfl
  have c6 := hblk5.cell (j := 6) rfl
  have cf4 := hblk5.frozen 4
  have hp5 := hblk5.lt
  obtain ⟨wM, hwM⟩ : ∃ wM, wM = w5.alloc (.cells mc.toArray 3) := ⟨_, rfl⟩
  rw [← hwM]
  have hsM : wM.heap.size = w5.heap.size + 1 := by rw [hwM, World.size_alloc]
  have hbM : Below w5.heap.size w5 wM := by rw [hwM]; exact (Below.refl _ _).alloc (Nat.le_refl _) _
  have HBM : Hid (Blk wM w5.heap.size 3 ((List.replicate nb (0 : Int)).map (Value.int .i64))) := by
    show Blk _ _ _ _
    rw [hwM, ← hmc.out]; exact Blk.alloc _ _ _
  have c4M := (hbM.cell (p := ⟨pb, 4, none⟩) hp5).trans c4
  have c6M := (hbM.cell (p := ⟨pb, 6, none⟩) hp5).trans c6
  have cf4M : wM.frozen? ⟨pb, 4, none⟩ = false := by rw [hwM, World.frozen?_alloc_old _ _ _ (by show pb ≠ _; omega)]; exact cf4
  have hpM : pb < wM.heap.size := by omega
  have hrow : Hid (wM.ownsRow 0 53 7 vL B.L.length (B.L.flatMap kblkCells)) := row_below HK5.out.L hbM (fun g hg => row_lt HK5.out.L hg)
  have HLT : Hid (∀ g, vL.ownBlock = some g → g < w5.heap.size) := fun g hg => row_lt HK5.out.L hg
  have HAP : Hid (vL.ownBlock ≠ some pb) := fun e => by
    obtain ⟨col, hs⟩ := HK5.out.sep
    have := hs.vL pb e
    rw [hs.pb] at this; omega
  have HSM := hide2 hsM
  clear hblk5 c4 c6 cf4 hwM hmk hsM
  go_region_law ((refine step_append_lies _ (by rfl) _ _ _ (by rfl) 0 53 i0 _ 7 72 Try.underlying48 hi0 hz0 hz1 hz2 rfl (by omega) vL B.L.length (B.L.flatMap kblkCells) (by rfl) ((hrow.out.alloc _).drew) ⟨wM.heap.size, 0, none⟩ 1 1 [.int .i64 q, .int .i64 (k : Int), .int .i64 (s : Int), .slice (some ⟨w5.heap.size, 0, none⟩) nb nb, .bool true, .int .i64 B.now, .int .i64 0] (by rfl) (by rfl) (World.news_of_block (cs := #[.int .i64 q, .int .i64 (k : Int), .int .i64 (s : Int), .slice (some ⟨w5.heap.size, 0, none⟩) nb nb, .bool true, .int .i64 B.now, .int .i64 0]) (t := 53) (fr := (0, 0)) (heap_alloc_new wM _)) (by simp [Value.oneCell']) (by omega) (by simp [maxLen]; omega) (by omega) (by simp) (wM.heap.size + 1) (by simp) ?_; intro gg cap2 w7 hown hgrow hat hlt7; have c4' : w7.cell? ⟨pb, 4, none⟩ = some vL := (by rw [hgrow.cell_far _ (by simp; omega) (fun e => HAP.out e.symm), World.cell?_drew, World.cell?_alloc_lt _ _ _ hpM]; exact c4M); have f4' : w7.frozen? ⟨pb, 4, none⟩ = false := (by rw [hgrow.frozen_far _ (by simp; omega) (fun e => HAP.out e.symm), World.frozen?_drew, World.frozen?_alloc_old _ _ _ (by show pb ≠ _; omega)]; exact cf4M)))
  all_goals
    have hsM := HSM.out
    have hg7 : (wM.alloc (.cells #[.int .i64 q, .int .i64 (k : Int), .int .i64 (s : Int), .slice (some ⟨w5.heap.size, 0, none⟩) nb nb, .bool true, .int .i64 B.now, .int .i64 0] 53)).grownBy w7 vL.ownBlock := ⟨hgrow.os, hgrow.tape, hgrow.output, hgrow.size, hgrow.block⟩
    have hs7 := hg7.size
    rw [World.size_alloc] at hs7
    have hk7 : Kept w5 w7 (fun b => vL.ownBlock = some b) := ⟨hg7.os.trans hbM.os, hg7.tape.trans hbM.tape, hg7.output.trans hbM.output, by omega, fun b hb hn => by
      rw [hg7.block b (by rw [World.size_alloc]; omega) (fun e => hn e.symm)]
      exact (Below.heap_alloc wM _ b (by omega)).trans (hbM.block b hb)⟩
    have hx7 : Blk w7 w5.heap.size 3 ((List.replicate nb (0 : Int)).map (Value.int .i64)) := by
      have e1 := hg7.block w5.heap.size (by rw [World.size_alloc]; omega) (fun e => by have := HLT.out _ e.symm; omega)
      exact (e1.trans (Below.heap_alloc wM _ w5.heap.size (by omega))).trans HBM.out
    have hpush := HK5.out.push ⟨q, k, s, List.replicate nb 0, w5.heap.size, true, B.now, 0⟩ (by rw [show kblkCells ⟨q, k, s, List.replicate nb 0, w5.heap.size, true, B.now, 0⟩ = [.int .i64 q, .int .i64 (k : Int), .int .i64 (s : Int), .slice (some ⟨w5.heap.size, 0, none⟩) nb nb, .bool true, .int .i64 B.now, .int .i64 0] by simp [kblkCells]]; exact hown) hk7 hx7 (Nat.le_refl _) (hat.imp id (fun e => by show w5.heap.size < gg; omega))
    clear hg7 hk7 hx7
    go_wp2
    go_ret
    refine ⟨_, w5.heap.size, rfl, by rw [HNB.out, Int.toNat_natCast]; exact hpush.1, (Kept.of_below hb5 _).trans hpush.2.1, fun b hb => ?_, hb5.size⟩
    simp [Value.ownBlock] at hb
    subst hb
    exact hpush.2.2.imp id (fun e => Nat.le_trans hb5.size e)
end Go.Proofs.Ytjikemhmnkckcaa
/- The book: a block stands. -/
namespace Go.Proofs.Ytjikemhmnkckcaa
open Go.RowKit

/-- a live block stands: its length, its bytes -/
def Stands (R : RSt) (x : KBlk) : Prop := R.usable x.p = ((x.want.length : Int), 0) ∧ ∀ j : Nat, j < x.want.length → R.load (x.p + j) 1 = (x.want.getD j 0, 0)

set_option maxRecDepth 100000 in
set_option maxHeartbeats 3200000 in
theorem kstands_any (pb ph : Nat) (gc : Value) (bb : Nat) (G : GSt) (R : RSt) (vc vL vF : Value) (B : KSt) (i : Nat) (w : World) (h : KRep w pb ph gc bb G vc vL vF B) (hS : SimB G R) (hi : i < B.L.length) (hst : Stands R (B.L.getD i KBlk.no)) (hlen : (B.L.getD i KBlk.no).want.length ≤ 128) (p0 : 0 ≤ (B.L.getD i KBlk.no).p) (p1 : (B.L.getD i KBlk.no).p ≤ 2000000000000000000) :
    Calls Try.prog 24 #[.pointer (some ⟨pb, 0, none⟩), .int .i64 (i : Int)] w fun e w' => e = .returned (.bool true) ∧ Below w.heap.size w w' := by
  obtain ⟨al, cap, rfl, hcap, hmax, hrow⟩ := row_open h.L
  obtain ⟨g, rfl, hgl, hcell, hfrz⟩ := hrow (by omega)
  unfold maxLen at hmax
  have HK := hide2 h
  have HS := hide2 hS
  have hpb := h.blk.lt
  have c3 := h.blk.cell (j := 3) rfl
  have c4 := h.blk.cell (j := 4) rfl
  obtain ⟨d0, d1, d2, d3, d4, d5, d6⟩ := kblk_cells hcell i hi
  have hwant := hide2 (h.want i hi)
  have hwlt := (h.want i hi).lt
  have hiI : (i : Int) < (B.L.length : Int) := by omega
  have HG := hide2 h.heap
  generalize B.L.getD i KBlk.no = x at *
  have HU := hide2 hst.1
  have HL := hide2 hst.2
  clear h hS hrow hcell hfrz hst
  go_enter Try.func24, Try.ntmps24
  go_wp2_with fail
  obtain ⟨wa, hwa⟩ : ∃ wa, wa = w.alloc (.cells #[.int .i64 x.p, .int .i64 x.k, .int .i64 x.s, .slice (some ⟨x.wb, 0, none⟩) x.want.length x.want.length, .bool x.live, .int .i64 x.site, .int .i64 x.gone] 53) := ⟨_, rfl⟩
  rw [← hwa]
  have hba : Below w.heap.size w wa := by rw [hwa]; exact (Below.refl _ _).alloc (Nat.le_refl _) _
  have hsa : wa.heap.size = w.heap.size + 1 := by rw [hwa, World.size_alloc]
  have HX : Hid (Blk wa w.heap.size 53 [.int .i64 x.p, .int .i64 x.k, .int .i64 x.s, .slice (some ⟨x.wb, 0, none⟩) x.want.length x.want.length, .bool x.live, .int .i64 x.site, .int .i64 x.gone]) := by rw [hwa]; exact Blk.alloc _ _ _
  have b0 := HX.out.cell (j := 0) rfl
  have b3 := HX.out.cell (j := 3) rfl
  have c3a := (hba.cell (p := ⟨pb, 3, none⟩) hpb).trans c3
  have hob : w.heap.size < wa.heap.size := by omega
  have hpa : pb < wa.heap.size := by omega
  have HBA := hide2 hba
  clear hwa c3 c4 d0 d1 d2 d3 d4 d5 d6 hba hsa
  obtain ⟨ob, hobe⟩ : ∃ ob, ob = w.heap.size := ⟨_, rfl⟩
  rw [← hobe] at b0 b3 hob HX ⊢
  have HXO := hide2 hobe
  clear hobe
  go_region_held3 (fun w' => w'.cell? ⟨pb, 3, none⟩ = some (.pointer (some ⟨ph, 0, none⟩)) ∧ w'.cell? ⟨ob, 0, none⟩ = some (.int .i64 x.p)) (go_keep)
    (first | (go_at_call 56; refine (gusable_any ph gc bb G R x.p wa.drew ((HG.out.below HBA.out).kept (fun _ _ => rfl)) HS.out.sim (by omega)).mono ?_; rw [HU.out]; rintro e w1 ⟨rfl, hb1⟩; have c3' : w1.cell? ⟨pb, 3, none⟩ = some (.pointer (some ⟨ph, 0, none⟩)) := (hb1.cell (p := ⟨pb, 3, none⟩) hpa).trans c3a; have b0' : w1.cell? ⟨ob, 0, none⟩ = some (.int .i64 x.p) := (hb1.cell (p := ⟨ob, 0, none⟩) hob).trans b0; have HB1 : Hid (Below wa.heap.size wa w1) := ⟨hb1.os, hb1.tape, hb1.output, hb1.size, hb1.block⟩; clear hb1))
  have b3' := (HB1.out.cell (p := ⟨ob, 3, none⟩) hob).trans b3
  have hs1 := HB1.out.size
  have HBW : Hid (Below w.heap.size w w1) := HBA.out.trans (HB1.out.mono HBA.out.size)
  clear c3a b0 b3
  have hnn : ((x.want.length : Int) != (x.want.length : Int)) = false := by simp
  go_wp2
  go_loopw [8] (fun j wr => ∃ m : Nat, m ≤ x.want.length ∧ j = .int .i64 (m : Int) ∧ Below w.heap.size w wr ∧ wr.cell? ⟨ob, 0, none⟩ = some (.int .i64 x.p) ∧ wr.cell? ⟨ob, 3, none⟩ = some (.slice (some ⟨x.wb, 0, none⟩) x.want.length x.want.length) ∧ ob < wr.heap.size) (fun j _ => x.want.length - (intOf j).toNat)
  case atStart => exact ⟨0, by omega, rfl, HBW.out, b0', b3', by omega⟩
  case round =>
    obtain ⟨m, hm, rfl, hb, b0r, b3r, hobr⟩ := hrel
    have hpr : pb < wr.heap.size := Nat.lt_of_lt_of_le hpb hb.size
    have c3r : wr.cell? ⟨pb, 3, none⟩ = some (.pointer (some ⟨ph, 0, none⟩)) := (hb.cell (p := ⟨pb, 3, none⟩) hpb).trans (HK.out.blk.cell (j := 3) rfl)
    have HBR := hide2 hb
    clear b0' b3' c3' hb
    by_cases hlt : m < x.want.length
    · have hI : (m : Int) < (x.want.length : Int) := by omega
      have HLD := hide2 (HL.out m hlt)
      have HWM : Hid (∀ w9 : World, Below w.heap.size w w9 → w9.cell? ⟨x.wb, m, none⟩ = some (.int .i64 (x.want.getD m 0))) := fun w9 h9 => by
        rw [h9.cell (p := ⟨x.wb, m, none⟩) hwlt]
        refine hwant.out.cell ?_
        rw [List.getElem?_map, List.getElem?_eq_getElem hlt]
        simp [List.getD_eq_getElem?_getD, List.getElem?_eq_getElem hlt]
      have e1 : (x.want.getD m 0 != x.want.getD m 0) = false := by simp
      have m0 : (0 : Int) ≤ (m : Int) := by omega
      have hxm : x.p + (m : Int) ≤ 9223372036854775807 := by omega
      have hxw : IntKind.i64.wrap (x.p + (m : Int)) = x.p + (m : Int) := by rw [IntKind.wrap_i64]; omega
      generalize x.want.getD m 0 = wm at *
      go_wp2_with fail
      go_region_held3 (fun w' => w'.cell? ⟨pb, 3, none⟩ = some (.pointer (some ⟨ph, 0, none⟩)) ∧ w'.cell? ⟨ob, 0, none⟩ = some (.int .i64 x.p)) (go_keep)
        (first | (go_at_call 32; refine (gload_any ph gc bb G R (x.p + (m : Int)) 1 wr.drew ((HG.out.below HBR.out).kept (fun _ _ => rfl)) HS.out hxm).mono ?_; rw [HLD.out]; rintro e w2 ⟨rfl, hb2⟩; have c3' : w2.cell? ⟨pb, 3, none⟩ = some (.pointer (some ⟨ph, 0, none⟩)) := (hb2.cell (p := ⟨pb, 3, none⟩) hpr).trans c3r; have b0' : w2.cell? ⟨ob, 0, none⟩ = some (.int .i64 x.p) := (hb2.cell (p := ⟨ob, 0, none⟩) hobr).trans b0r; have HB2 : Hid (Below wr.heap.size wr w2) := ⟨hb2.os, hb2.tape, hb2.output, hb2.size, hb2.block⟩; clear hb2))
      have b3s := (HB2.out.cell (p := ⟨ob, 3, none⟩) hobr).trans b3r
      have HBN : Hid (Below w.heap.size w w2) := HBR.out.trans (HB2.out.mono HBR.out.size)
      have hwm := HWM.out w2 HBN.out
      have hs2 := HB2.out.size
      clear c3r b0r b3r
      go_wp2
      go_roundw
      case rel => exact ⟨m + 1, by omega, by go_num, HBN.out, b0', b3s, by omega⟩
      case measure => simp [intOf]; omega
    · obtain rfl : m = x.want.length := by omega
      go_wp2
      go_ret
      exact ⟨rfl, HBR.out⟩
end Go.Proofs.Ytjikemhmnkckcaa
/- The book against the heap. Plain mathematics. -/
namespace Go.Proofs.Ytjikemhmnkckcaa
open Go.RowKit

/-- a block that is live, by the heap -/
structure KLive (R : RSt) (x : KBlk) (k s : Nat) : Prop where
  ek : x.k = k
  es : x.s = s
  hk : k < R.cls.length
  hs : s < (Cf.sl R.cls k).toNat
  st : Ref.state R.log k s = 3
  p : x.p = Ref.last R.log k s * 72057594037927936 + Cf.begin_ R.st R.cls k s
  len : (x.want.length : Int) = 16 * (R.log.getD (Ref.given R.log k s).toNat Ref.Ev.no).size
  byte : ∀ t : Nat, t < x.want.length → x.want.getD t 0 = R.byte (Cf.begin_ R.st R.cls k s + t)

section
variable {G : GSt} {R : RSt} {x : KBlk} {k s : Nat}
theorem KLive.bd (h : KLive R x k s) (hs : SimB G R) : 1 ≤ Ref.last R.log k s ∧ Ref.last R.log k s ≤ 14 ∧ 32 ≤ Cf.begin_ R.st R.cls k s ∧ Cf.begin_ R.st R.cls k s ≤ 8640 ∧ x.want.length ≤ 128 ∧ 16 ≤ x.want.length ∧ (x.want.length : Int) ≤ 16 * Cf.gr R.cls k := by
  have h1 := hs.fits.tag k s (live_given h.st)
  have h2 := hs.fits.size k s (live_given h.st)
  have hv := hs.sim.rok.conf
  have h3 := Cf.begin_bd hv k h.hk s (by omega) (by have := hv.s1 k h.hk; have := h.hs; omega)
  have h4 := hv.g1 k h.hk
  have h5 := h.len
  omega
theorem KLive.at_ (h : KLive R x k s) (hs : SimB G R) (j : Nat) (hj : j < x.want.length) : (x.p + j) % 72057594037927936 = Cf.begin_ R.st R.cls k s + j ∧ (x.p + j) / 72057594037927936 = Ref.last R.log k s ∧ Ref.tameB (x.p + j) = true := by
  have h1 := h.bd hs
  have h2 := h.p
  refine ⟨by omega, by omega, (tame_iff _).2 ⟨by omega, by omega, by omega⟩⟩
theorem KLive.block (h : KLive R x k s) (hs : SimB G R) : Ref.block R.st R.cls R.log x.p = ((k : Int), (s : Int), 0) := by
  have h1 := h.bd hs
  have h2 := h.at_ hs 0 (by omega)
  simp only [Int.natCast_zero, Int.add_zero] at h2
  exact (block_iff hs.sim.rok.conf R.log x.p k s).2 ⟨h.hk, h.hs, h2.2.2, h2.1.symm, h2.2.1.symm, h.st⟩
theorem KLive.tag (h : KLive R x k s) (hs : SimB G R) (j : Nat) (hj : j < x.want.length) : R.tag (Cf.begin_ R.st R.cls k s + j) = Ref.last R.log k s := by
  have h5 := h.len
  exact tag_live hs.sim.rok.conf k s h.hk h.hs h.st _ (by omega) (by omega) (hs.fits.size k s (live_given h.st)).2
theorem KLive.access (h : KLive R x k s) (hs : SimB G R) (j : Nat) (hj : j < x.want.length) : (R.access (x.p + j) 1).1 = 0 := by
  have h1 := h.at_ hs j hj
  have h2 := h.tag hs j hj
  have h3 := h.bd hs
  unfold RSt.access
  rw [if_neg (by omega), if_neg (by omega), h1.2.2, if_pos rfl, h1.1, h1.2.1]
  show (Ref.accFrom R.tag (Ref.last R.log k s) (Cf.begin_ R.st R.cls k s + j) 1 0).1 = 0
  simp only [Ref.accFrom]
  rw [show Cf.begin_ R.st R.cls k s + (j : Int) + ((0 : Nat) : Int) = Cf.begin_ R.st R.cls k s + j by omega, h2, if_neg (by omega), if_neg (by omega)]
theorem KLive.stands (h : KLive R x k s) (hs : SimB G R) : Stands R x := by
  have hb := h.bd hs
  refine ⟨?_, fun j hj => ?_⟩
  · unfold RSt.usable
    rw [h.block hs, if_neg (by simp), h.len]
  · have h1 := h.at_ hs j hj
    have h2 := h.access hs j hj
    unfold RSt.load
    rw [if_neg (by decide), if_neg (by rw [h2]; simp), h1.1, h.byte j hj]
    have h3 := hs.marks.byte_bd (Cf.begin_ R.st R.cls k s + j)
    show (wrap64 (0 + wrap64 (R.byte (Cf.begin_ R.st R.cls k s + j + ((0 : Nat) : Int)) * 1)), (0 : Int)) = _
    rw [show Cf.begin_ R.st R.cls k s + (j : Int) + ((0 : Nat) : Int) = Cf.begin_ R.st R.cls k s + j by omega, wrap64_in (R.byte (Cf.begin_ R.st R.cls k s + j) * 1) (by omega) (by omega), wrap64_in _ (by omega) (by omega)]
    simp
end

/-- how many blocks of the slot were given behind block i -/
def klaterTo (L : List KBlk) (i : Nat) : Nat → Nat
  | 0 => 0
  | m + 1 => klaterTo L i m + if i < m ∧ (L.getD m KBlk.no).k = (L.getD i KBlk.no).k ∧ (L.getD m KBlk.no).s = (L.getD i KBlk.no).s then 1 else 0
def klater (L : List KBlk) (i : Nat) : Nat := klaterTo L i L.length
theorem klaterTo_early (L : List KBlk) (i m : Nat) (h : m ≤ i + 1) : klaterTo L i m = 0 := by
  induction m with
  | zero => rfl
  | succ m ih => simp only [klaterTo]; rw [ih (by omega), if_neg (by omega)]
theorem klaterTo_le (L : List KBlk) (i m : Nat) : klaterTo L i m ≤ m := by
  induction m with
  | zero => exact Nat.le_refl _
  | succ m ih => simp only [klaterTo]; split <;> omega
theorem klaterTo_congr (L M : List KBlk) (i m : Nat) (h : ∀ j, j < m ∨ j = i → (L.getD j KBlk.no).k = (M.getD j KBlk.no).k ∧ (L.getD j KBlk.no).s = (M.getD j KBlk.no).s) : klaterTo L i m = klaterTo M i m := by
  induction m with
  | zero => rfl
  | succ m ih =>
    simp only [klaterTo]
    rw [ih (fun j hj => h j (by omega)), (h m (by omega)).1, (h m (by omega)).2, (h i (by omega)).1, (h i (by omega)).2]
theorem klaterTo_pos (L : List KBlk) (i j m : Nat) (hij : i < j) (hj : j < m) (hk : (L.getD j KBlk.no).k = (L.getD i KBlk.no).k) (hs : (L.getD j KBlk.no).s = (L.getD i KBlk.no).s) : 0 < klaterTo L i m := by
  induction m with
  | zero => omega
  | succ m ih =>
    simp only [klaterTo]
    by_cases e : j = m
    · subst e; rw [if_pos ⟨hij, hk, hs⟩]; omega
    · have := ih (by omega); omega
theorem klater_uniq (L : List KBlk) (i j : Nat) (hi : i < L.length) (hj : j < L.length) (hk : (L.getD j KBlk.no).k = (L.getD i KBlk.no).k) (hs : (L.getD j KBlk.no).s = (L.getD i KBlk.no).s) (zi : klater L i = 0) (zj : klater L j = 0) : i = j := by
  rcases Nat.lt_trichotomy i j with h | h | h
  · have := klaterTo_pos L i j L.length h hj hk hs; unfold klater at zi; omega
  · exact h
  · have := klaterTo_pos L j i L.length h hi hk.symm hs.symm; unfold klater at zj; omega

/-- what the heap has of a block of the book, live or gone, behind which n were given out of its slot -/
structure KHad (R : RSt) (x : KBlk) (n : Nat) (k s : Nat) (t : Int) : Prop where
  ek : x.k = k
  es : x.s = s
  hk : k < R.cls.length
  hs : s < (Cf.sl R.cls k).toNat
  gv : 0 ≤ Ref.given R.log k s
  t0 : 1 ≤ t
  t1 : t ≤ 14
  p : x.p = t * 72057594037927936 + Cf.begin_ R.st R.cls k s
  cur : n = 0 → t = Ref.last R.log k s ∧ (R.log.getD (Ref.given R.log k s).toNat Ref.Ev.no).site = x.site
  dead : n = 0 → x.live = false → Ref.state R.log k s = 4 ∧ (R.log.getD (Ref.gone R.log k s).toNat Ref.Ev.no).site = x.gone
  old : n = 1 → t ≠ Ref.last R.log k s
  lv : x.live = true → n = 0 ∧ x.gone = 0

theorem gone_other (log : List Ref.Ev) (e : Ref.Ev) (k s : Int) (hg : e.gives k s = false) (ht : e.takes k s = false) : Ref.gone (log ++ [e]) k s = Ref.gone log k s := by
  rw [Ref.gone_snoc log e k s hg, ht]
  have := Ref.gone_lo log k s
  by_cases h : 0 ≤ Ref.gone log k s
  · rw [if_pos h]
  · rw [if_neg h]; simp; omega
theorem gone_hi4 {log : List Ref.Ev} {k s : Int} (h : Ref.state log k s = 4) : 0 ≤ Ref.gone log k s ∧ Ref.gone log k s < log.length := by
  rcases state_of log k s with x | x | x
  · omega
  · omega
  · exact ⟨x.2.2, Ref.gone_hi log k s⟩
theorem KHad.other {R : RSt} {x : KBlk} {n k s : Nat} {t : Int} (h : KHad R x n k s t) (e : Ref.Ev) (hg : e.gives k s = false) (ht : e.takes k s = false) : KHad ⟨R.st, R.rest, R.cls, R.log ++ [e], R.marks⟩ x n k s t := by
  refine ⟨h.ek, h.es, h.hk, h.hs, ?_, h.t0, h.t1, h.p, fun hn => ?_, fun hn hl => ?_, fun hn => ?_, h.lv⟩
  · show 0 ≤ Ref.given (R.log ++ [e]) k s
    rw [given_other _ _ _ _ hg]; exact h.gv
  · show t = Ref.last (R.log ++ [e]) k s ∧ ((R.log ++ [e]).getD (Ref.given (R.log ++ [e]) k s).toNat Ref.Ev.no).site = x.site
    rw [last_other _ _ _ _ hg, size_other _ _ _ _ hg h.gv]; exact h.cur hn
  · show Ref.state (R.log ++ [e]) k s = 4 ∧ ((R.log ++ [e]).getD (Ref.gone (R.log ++ [e]) k s).toNat Ref.Ev.no).site = x.gone
    have hd := h.dead hn hl
    have hh := gone_hi4 hd.1
    rw [state_other _ _ _ _ hg ht, gone_other _ _ _ _ hg ht, Ref.getD_old _ _ _ (by omega)]; exact hd
  · show t ≠ Ref.last (R.log ++ [e]) k s
    rw [last_other _ _ _ _ hg]; exact h.old hn

structure KOk (B : KSt) (G : GSt) (R : RSt) : Prop where
  simb : SimB G R
  st : B.st = R.st
  rest : B.rest = R.rest
  cls : B.cls = R.cls
  rests : RestOk R B.F
  live : ∀ j, j < B.L.length → (B.L.getD j KBlk.no).live = true → ∃ k s : Nat, KLive R (B.L.getD j KBlk.no) k s
  uniq : ∀ i j, i < B.L.length → j < B.L.length → (B.L.getD i KBlk.no).live = true → (B.L.getD j KBlk.no).live = true → (B.L.getD i KBlk.no).k = (B.L.getD j KBlk.no).k → (B.L.getD i KBlk.no).s = (B.L.getD j KBlk.no).s → i = j
  cnt : ∀ k, k < R.cls.length → kliveN B.L k B.L.length = cntTo (fun s => decide (Ref.state R.log k s = 3)) (Cf.sl R.cls k).toNat
  had : ∀ i, i < B.L.length → ∃ (k s : Nat) (t : Int), KHad R (B.L.getD i KBlk.no) (klater B.L i) k s t
  nb : ∀ k s : Nat, 0 ≤ Ref.given R.log k s → 0 ≤ Ref.given R.log k ((s : Int) + 1) → Ref.last R.log k s ≠ Ref.last R.log k ((s : Int) + 1)

theorem rests_r {R : RSt} (hl : LogOk R) (k s : Nat) (h3 : Ref.state R.log k s ≠ 3) : Ref.rests R.log R.rest k s = decide (0 < R.r k s) := by
  unfold Ref.rests RSt.r
  rcases state_of R.log k s with x | x | x
  · rw [if_pos (hl.vir k s x.2), if_neg (by omega)]; rfl
  · omega
  · rw [if_neg (by omega), if_pos x.1]
    exact decide_eq_decide.2 (by omega)

section
variable {B : KSt} {G : GSt} {R : RSt}
/-- how many of each kind -/
theorem KOk.three (h : KOk B G R) (k : Nat) (hk : k < R.cls.length) : (kliveN B.L k B.L.length : Int) + kfreeN B.F B.rest k B.F.length + (cntTo (Ref.openB R.log R.rest k) (Cf.sl R.cls k).toNat : Int) = Cf.sl R.cls k := by
  have hv := h.simb.sim.rok.conf
  have hfb := kfreeN_bd B.F R.rest k B.F.length hv.re0
  have hsl := hv.s0 k hk
  obtain ⟨V, hV⟩ := Int.eq_ofNat_of_zero_le hv.re0
  obtain ⟨m, hm⟩ := Int.eq_ofNat_of_zero_le hfb.1
  have hc := h.rests.cnt k hk
  rw [hm, hV] at hc
  have hsum := cntTo_sum (fun s => R.r k s) (Cf.sl R.cls k).toNat V m (by omega) hc V (Nat.le_refl _)
  have hrest : cntTo (fun s => decide (0 < R.r k s)) (Cf.sl R.cls k).toNat = m := by
    rw [cntTo_congr _ (fun s => decide (0 < R.r k s ∧ R.r k s ≤ (V : Int))) _ (fun s _ => decide_eq_decide.2 (by have := r_bd hv.re0 k s; omega)), hsum]
    by_cases c : V - m < V
    · rw [if_pos c]; omega
    · rw [if_neg c]; omega
  have h3 := cntTo_three (fun s => decide (Ref.state R.log k s = 3)) (fun s => decide (0 < R.r k s)) (Ref.openB R.log R.rest k) (Cf.sl R.cls k).toNat (fun s _ => by
    by_cases e : Ref.state R.log k s = 3
    · rw [if_pos (decide_eq_true e), if_neg (by rw [decide_eq_true_eq, r_live (by omega)]; omega), if_neg (by unfold Ref.openB; simp [e])]
    · have hr := rests_r h.simb.sim.log k s e
      rw [if_neg (c := decide (Ref.state R.log k s = 3) = true) (by rw [decide_eq_true_eq]; exact e)]
      have ho : Ref.openB R.log R.rest k s = !decide (0 < R.r k s) := by
        unfold Ref.openB
        rw [hr]
        have : (Ref.state R.log k s != 3) = true := by simp [e]
        rw [this]; rfl
      rw [ho]
      cases decide (0 < R.r k s) <;> rfl)
  rw [h.cnt k hk, h.rest, hm]
  omega
/-- what must come is what comes -/
theorem KOk.expect (h : KOk B G R) (size draw : Int) : kexpect B size = (mOut R size draw).2 := by
  unfold kexpect
  rw [h.cls]
  rcases mOut_cases R h.simb.sim.rok size draw with ⟨hc, hm⟩ | ⟨k, h1, hk, hkl, hf, hm⟩ | ⟨k, s, h1, hk, hkl, hf, hs, hz, hm⟩
  · rw [hm, show gcls R.cls size = -1 from if_pos hc, if_pos (by decide)]
  · have hg : gcls R.cls size = (k : Int) := by unfold gcls; rw [if_neg (by omega), hk]
    rw [hm, hg, if_neg (by omega), Int.toNat_natCast]
    have h3 := h.three k hkl
    have hno : cntTo (Ref.openB R.log R.rest k) (Cf.sl R.cls k).toNat = 0 := cntTo_none _ _ fun s hs => by
      have hlo := Ref.firstFrom_lo (Ref.openB R.log R.rest k) (Cf.sl R.cls k).toNat 0
      change -1 ≤ Ref.first R.log R.rest R.cls k at hlo
      exact Ref.firstFrom_no (Ref.openB R.log R.rest k) (Cf.sl R.cls k).toNat 0 (by change Ref.first R.log R.rest R.cls k = -1; omega) s (by omega) (by omega)
    have : kfull B k = true := by
      unfold kfull
      rw [h.cls]
      exact decide_eq_true (by omega)
    rw [this]; rfl
  · have hg : gcls R.cls size = (k : Int) := by unfold gcls; rw [if_neg (by omega), hk]
    rw [hm, hg, if_neg (by omega), Int.toNat_natCast]
    have h3 := h.three k hkl
    have hat := Ref.firstFrom_at (Ref.openB R.log R.rest k) (Cf.sl R.cls k).toNat 0 (by change 0 ≤ Ref.first R.log R.rest R.cls k; omega)
    have h2 := hat.2
    change Ref.openB R.log R.rest k (Ref.first R.log R.rest R.cls k).toNat = true at h2
    rw [hf, Int.toNat_natCast] at h2
    have hpos := cntTo_some _ _ s hs h2
    have : kfull B k = false := by
      unfold kfull
      rw [h.cls]
      exact decide_eq_false (by omega)
    rw [this]; rfl

/-- the slot that is chosen: by the book no block is live in it, and it doesn't rest -/
theorem KOk.chosen (h : KOk B G R) (k s : Nat) (ho : Ref.openB R.log R.rest k s = true) : klive B.L k s = false ∧ krests B.F B.rest k s = false ∧ R.r k s = 0 ∧ Ref.state R.log k s ≠ 3 := by
  have h3 : Ref.state R.log k s ≠ 3 := fun e => by unfold Ref.openB at ho; simp [e] at ho
  have hr : R.r k s = 0 := by
    have := r_bd (R := R) h.simb.sim.rok.conf.re0 k s
    have hx := rests_r h.simb.sim.log k s h3
    unfold Ref.openB at ho
    rw [hx] at ho
    simp at ho
    omega
  refine ⟨?_, ?_, hr, h3⟩
  · have aux : ∀ n, n ≤ B.L.length → kliveTo B.L k s n = false := by
      intro n
      induction n with
      | zero => intro _; rfl
      | succ n ih =>
        intro hn
        simp only [kliveTo]
        rw [ih (by omega), Bool.false_or]
        cases e : ((B.L.getD n KBlk.no).live && (B.L.getD n KBlk.no).k == (k : Int) && (B.L.getD n KBlk.no).s == (s : Int))
        · rfl
        · exfalso
          simp only [Bool.and_eq_true, beq_iff_eq] at e
          obtain ⟨k', s', hl⟩ := h.live n (by omega) e.1.1
          have e1 := hl.ek
          have e2 := hl.es
          rw [e.1.2] at e1
          rw [e.2] at e2
          obtain rfl : k = k' := by omega
          obtain rfl : s = s' := by omega
          exact h3 hl.st
    exact aux B.L.length (Nat.le_refl _)
  · cases e : krests B.F B.rest k s
    · rfl
    · rw [h.rest] at e
      have := h.rests.look k s 0 (by omega) h3 e
      omega
end
end Go.Proofs.Ytjikemhmnkckcaa
