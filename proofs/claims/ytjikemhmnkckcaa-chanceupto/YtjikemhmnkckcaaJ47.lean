import Derived.Test.YtjikemhmnkckcaaJ46
import Derived.Test.YtjikemhmnkckcaaJ40
namespace Go.Proofs.Ytjikemhmnkckcaa
open Go.RowKit

set_option maxRecDepth 100000 in
set_option maxHeartbeats 3200000 in
theorem tstep_free (T : RSt → KSt → Prop) (w0 : World) (pb n : Nat) (o1 o2 o3 : Int) (ex : Bool) (w : World) (h : KInT T w0 w pb n) (hn : n < 2000000) (b10 : -9223372036854775808 ≤ o1) (b11 : o1 ≤ 9223372036854775807) (b20 : -9223372036854775808 ≤ o2) (b21 : o2 ≤ 9223372036854775807) (b30 : -9223372036854775808 ≤ o3) (b31 : o3 ≤ 9223372036854775807) :
    Calls Try.prog 55 #[.pointer (some ⟨pb, 0, none⟩), .agg #[.int .i64 2, .int .i64 o1, .int .i64 o2, .int .i64 o3], .bool ex] w fun e w' => e = .returned (.bool true) ∧ KInT (kNext T 2 o1 o2 o3) w0 w' pb (n + 1) := by
  obtain ⟨ph, gc, bb, G, R, vc, vL, vF, B, hK, hok, hT, hL, hF, n0, n1, hbl, hft⟩ := h
  have HT := hide2 hT
  clear hT
  have HOK := hide2 hok
  have HBL := hide2 hbl
  have HFT := hide2 hft
  have hv : Cf.Valid B.st B.rest B.cls := by rw [hok.st, hok.rest, hok.cls]; exact hok.simb.sim.rok.conf
  have HV := hide2 hv
  have HK := hide2 hK
  have hpb := hK.blk.lt
  have c6 := hK.blk.cell (j := 6) rfl
  have f6 := hK.blk.frozen 6
  have HB := hide2 (And.intro (And.intro b10 b11) (And.intro (And.intro b20 b21) (And.intro b30 b31)))
  clear hok hbl hft hv hK b10 b11 b20 b21 b30 b31
  go_enter Try.func55, Try.ntmps55
  go_wp2_with fail
  obtain ⟨wa, hwa⟩ : ∃ wa, wa = (w.setCell ⟨pb, 6, none⟩ (.int .i64 (B.now + 1))).alloc (.cells #[.int .i64 2, .int .i64 o1, .int .i64 o2, .int .i64 o3] 103) := ⟨_, rfl⟩
  rw [← hwa]
  have hsa : wa.heap.size = w.heap.size + 1 := by rw [hwa, World.size_alloc, World.size_setCell]
  have HKa : Hid (KRep wa pb ph gc bb G vc vL vF ⟨B.st, B.rest, B.cls, B.L, B.F, B.now + 1⟩) := by
    show KRep _ _ _ _ _ _ _ _ _ _
    rw [hwa]
    exact (HK.out.at_now (B.now + 1)).below ((Below.refl _ _).alloc (Nat.le_refl _) _)
  have HO : Hid (Blk wa w.heap.size 103 [.int .i64 2, .int .i64 o1, .int .i64 o2, .int .i64 o3]) := by
    show Blk _ _ _ _
    rw [hwa]
    have := Blk.alloc (w.setCell ⟨pb, 6, none⟩ (.int .i64 (B.now + 1))) 103 [.int .i64 2, .int .i64 o1, .int .i64 o2, .int .i64 o3]
    rw [World.size_setCell] at this
    exact this
  have HBa : Hid (Below w0.heap.size w0 wa) := by
    show Below _ _ _
    rw [hwa]
    have hp0 := HFT.out pb (.inl rfl)
    have hset : Below w0.heap.size w (w.setCell ⟨pb, 6, none⟩ (.int .i64 (B.now + 1))) := ⟨rfl, rfl, rfl, by rw [World.size_setCell]; exact Nat.le_refl _, fun k hk => Below.heap_setCell w _ _ k (by show k ≠ pb; omega)⟩
    refine (HBL.out.trans hset).alloc ?_ _
    rw [World.size_setCell]; exact HBL.out.size
  have HOK1 := hide2 (HOK.out.at_now (B.now + 1))
  have HEX : Hid (kexpect ⟨B.st, B.rest, B.cls, B.L, B.F, B.now + 1⟩ o2 = (mOut R o2 o3).2) := HOK1.out.expect o2 o3
  have hpa : pb < wa.heap.size := by omega
  have hoa : w.heap.size < wa.heap.size := by omega
  have HFG : Hid (∀ b, GFoot ph gc bb G b → b < w.heap.size) := fun b hb => HK.out.heap.foot_lt hb
  clear hwa c6 f6 HK HOK
  obtain ⟨ob, hobe⟩ : ∃ ob, ob = w.heap.size := ⟨_, rfl⟩
  have HOE := hide2 hobe
  rw [← hobe] at HO hoa ⊢
  clear hobe hsa
  refine (kexpect_any pb ph gc bb G vc vL vF ⟨B.st, B.rest, B.cls, B.L, B.F, B.now + 1⟩ o2 wa HKa.out HV.out (by show B.L.length ≤ _; omega)).mono ?_
  rw [HEX.out]
  rintro e1 w1 ⟨rfl, hb1⟩
  have HK1 := hide2 (HKa.out.below hb1)
  have HO1 := hide2 (HO.out.below hb1 hoa)
  have HB1 := hide2 (HBa.out.trans (hb1.mono HBa.out.size))
  have hp1 : pb < w1.heap.size := Nat.lt_of_lt_of_le hpa hb1.size
  have ho1 : ob < w1.heap.size := Nat.lt_of_lt_of_le hoa hb1.size
  have c3 : w1.cell? ⟨pb, 3, none⟩ = some (.pointer (some ⟨ph, 0, none⟩)) := HK1.out.blk.cell (j := 3) rfl
  have c4 : w1.cell? ⟨pb, 4, none⟩ = some vL := HK1.out.blk.cell (j := 4) rfl
  have c6 : w1.cell? ⟨pb, 6, none⟩ = some (.int .i64 (B.now + 1)) := HK1.out.blk.cell (j := 6) rfl
  have d0 := HO1.out.cell (j := 0) rfl
  have d1 := HO1.out.cell (j := 1) rfl
  have d2 := HO1.out.cell (j := 2) rfl
  have d3 := HO1.out.cell (j := 3) rfl
  clear hb1
  by_cases hpos : 0 < B.L.length
  · have hpos' := hpos
    have HGP : Hid (¬ GFoot ph gc bb G pb) := fun hx => by
      obtain ⟨col, hs⟩ := HK1.out.sep
      have := hs.g pb hx
      rw [hs.pb] at this; omega
    have HGO : Hid (¬ GFoot ph gc bb G ob) := fun hx => by
      have h1 := HFG.out ob hx
      have h2 := HOE.out
      omega
    obtain ⟨al, cap, hvL, hcap, hmax, hrow⟩ := row_open HK1.out.L
    change vL = .slice al B.L.length cap at hvL
    subst hvL
    change 0 < B.L.length → _ at hrow
    obtain ⟨g, rfl, hgl, hcell, hfrz⟩ := hrow hpos
    unfold maxLen at hmax
    have hlz : (((B.L.length : Nat) : Int) == 0) = false := by rw [beq_eq_false_iff_ne]; omega
    have hkb := kpick_bd o1 B.L.length (by omega)
    obtain ⟨i, hie⟩ := Int.eq_ofNat_of_zero_le hkb.1
    have HIE := hide2 hie
    have hi : i < B.L.length := by omega
    have hiI : (i : Int) < (B.L.length : Int) := by omega
    have i0 : (0 : Int) ≤ (i : Int) := by omega
    obtain ⟨l0, _, _, l3, l4, _, _⟩ := kblk_cells hcell i hi
    change w1.cell? ⟨g, i * 7, none⟩ = some (.int .i64 (B.L.getD i KBlk.no).p) at l0
    change w1.cell? ⟨g, i * 7 + 3, none⟩ = some (.slice (some ⟨(B.L.getD i KBlk.no).wb, 0, none⟩) (B.L.getD i KBlk.no).want.length (B.L.getD i KBlk.no).want.length) at l3
    change w1.cell? ⟨g, i * 7 + 4, none⟩ = some (.bool (B.L.getD i KBlk.no).live) at l4
    have HGG : Hid (¬ GFoot ph gc bb G g) := fun hx => by
      obtain ⟨col, hs⟩ := HK1.out.sep
      have h1 := hs.g g hx
      have h2 := hs.vL g rfl
      omega
    clear hrow hcell hfrz hkb hie
    by_cases hlive : (B.L.getD i KBlk.no).live = true
    · rw [hlive] at l4
      obtain ⟨k, s, hli⟩ := HOK1.out.live i hi hlive
      change KLive R (B.L.getD i KBlk.no) k s at hli
      have hbd := hli.bd HOK1.out.simb
      have hpp := hli.p
      have HST := hide2 (hli.stands HOK1.out.simb)
      have hp0 : (B.L.getD i KBlk.no).p ≠ 0 := by omega
      have HFO : Hid (fOut R (B.L.getD i KBlk.no).p = 0) := by
        show _ = _
        unfold fOut
        rw [if_neg hp0, hli.block HOK1.out.simb]
      have HOKF := hide2 (HOK1.out.left i hi hlive (B.now + 1) rfl)
      have HTF : Hid (kNext T 2 o1 o2 o3 (fR R (B.L.getD i KBlk.no).p (B.now + 1)) (kleft ⟨B.st, B.rest, B.cls, B.L, B.F, B.now + 1⟩ i)) := ⟨R, B, HT.out, .frees rfl i HIE.out hi hlive⟩
      have HPB : Hid (0 ≤ (B.L.getD i KBlk.no).p ∧ (B.L.getD i KBlk.no).p ≤ 2000000000000000000 ∧ (B.L.getD i KBlk.no).want.length ≤ 128) := by
        refine ⟨?_, ?_, ?_⟩ <;> omega
      clear hli hbd hpp hp0
      have HKx := hide2 HK1.out.L
      go_wp2_with fail
      go_region_held3 (fun w' => w'.cell? ⟨pb, 4, none⟩ = some (.slice (some ⟨g, 0, none⟩) B.L.length cap) ∧ w'.cell? ⟨ob, 1, none⟩ = some (.int .i64 o1)) (go_keep)
        (first | (go_at_call 28; refine (kpick_any o1 (B.L.length : Int) w1.drew (by omega) HB.out.1.1 HB.out.1.2).mono ?_; rw [HIE.out]; rintro e w2 ⟨rfl, hwd⟩; have c4' : w2.cell? ⟨pb, 4, none⟩ = some (.slice (some ⟨g, 0, none⟩) B.L.length cap) := (by rw [← hwd]; exact c4); have d1' : w2.cell? ⟨ob, 1, none⟩ = some (.int .i64 o1) := (by rw [← hwd]; exact d1); have HWD := hide2 hwd; clear hwd))
      have c3' : w2.cell? ⟨pb, 3, none⟩ = some (.pointer (some ⟨ph, 0, none⟩)) := by rw [← HWD.out]; exact c3
      have c6' : w2.cell? ⟨pb, 6, none⟩ = some (.int .i64 (B.now + 1)) := by rw [← HWD.out]; exact c6
      have d0' : w2.cell? ⟨ob, 0, none⟩ = some (.int .i64 2) := by rw [← HWD.out]; exact d0
      have d2' : w2.cell? ⟨ob, 2, none⟩ = some (.int .i64 o2) := by rw [← HWD.out]; exact d2
      have d3' : w2.cell? ⟨ob, 3, none⟩ = some (.int .i64 o3) := by rw [← HWD.out]; exact d3
      have l0' : w2.cell? ⟨g, i * 7, none⟩ = some (.int .i64 (B.L.getD i KBlk.no).p) := by rw [← HWD.out]; exact l0
      have l3' : w2.cell? ⟨g, i * 7 + 3, none⟩ = some (.slice (some ⟨(B.L.getD i KBlk.no).wb, 0, none⟩) (B.L.getD i KBlk.no).want.length (B.L.getD i KBlk.no).want.length) := by rw [← HWD.out]; exact l3
      have l4' : w2.cell? ⟨g, i * 7 + 4, none⟩ = some (.bool true) := by rw [← HWD.out]; exact l4
      have HKy : Hid (KRep w2 pb ph gc bb G vc (.slice (some ⟨g, 0, none⟩) B.L.length cap) vF ⟨B.st, B.rest, B.cls, B.L, B.F, B.now + 1⟩) := by show KRep _ _ _ _ _ _ _ _ _ _; rw [← HWD.out]; exact HK1.out.kept (fun _ _ => rfl)
      have HBy : Hid (Below w0.heap.size w0 w2) := by show Below _ _ _; rw [← HWD.out]; exact ⟨HB1.out.os, HB1.out.tape, HB1.out.output, HB1.out.size, HB1.out.block⟩
      have hpy : pb < w2.heap.size := by rw [← HWD.out]; exact hp1
      have hgy : g < w2.heap.size := by rw [← HWD.out]; exact hgl
      have hoy : ob < w2.heap.size := by rw [← HWD.out]; exact ho1
      clear HKx HWD HK1 HB1 hp1 hgl ho1 c3 c4 c6 d0 d1 d2 d3 l0 l3 l4
      obtain ⟨w1, hw1⟩ : ∃ w1, w1 = w2 := ⟨_, rfl⟩
      subst hw1
      have HK1 := HKy
      have HB1 := HBy
      have hp1 := hpy
      have hgl := hgy
      have ho1 := hoy
      have c3 := c3'
      have c4 := c4'
      have c6 := c6'
      have d0 := d0'
      have d1 := d1'
      have d2 := d2'
      have d3 := d3'
      have l0 := l0'
      have l3 := l3'
      have l4 := l4'
      clear HKy HBy hpy hgy hoy c3' c4' c6' d0' d1' d2' d3' l0' l3' l4'
      go_wp2_with fail
      refine (kstands_any pb ph gc bb G R vc _ vF ⟨B.st, B.rest, B.cls, B.L, B.F, B.now + 1⟩ i w1 HK1.out HOK1.out.simb hi HST.out HPB.out.2.2 HPB.out.1 HPB.out.2.1).mono ?_
      rintro e w2 ⟨rfl, hb2⟩
      have c3a := (hb2.cell (p := ⟨pb, 3, none⟩) hp1).trans c3
      have c4a := (hb2.cell (p := ⟨pb, 4, none⟩) hp1).trans c4
      have c6a := (hb2.cell (p := ⟨pb, 6, none⟩) hp1).trans c6
      have l0a := (hb2.cell (p := ⟨g, i * 7, none⟩) hgl).trans l0
      have HK2 := hide2 (HK1.out.below hb2)
      have HB2 := hide2 (HB1.out.trans (hb2.mono HB1.out.size))
      have hp2 : pb < w2.heap.size := Nat.lt_of_lt_of_le hp1 hb2.size
      have hg2 : g < w2.heap.size := Nat.lt_of_lt_of_le hgl hb2.size
      clear hb2 c3 c4 c6 l0 l3 l4 d0 d1 d2 d3
      generalize hpe : (B.L.getD i KBlk.no).p = pp at *
      clear hpe
      go_wp2_with fail
      go_region_held3 (fun w' => w'.cell? ⟨pb, 3, none⟩ = some (.pointer (some ⟨ph, 0, none⟩)) ∧ w'.cell? ⟨pb, 4, none⟩ = some (.slice (some ⟨g, 0, none⟩) B.L.length cap) ∧ w'.cell? ⟨pb, 6, none⟩ = some (.int .i64 (B.now + 1)) ∧ w'.cell? ⟨g, i * 7, none⟩ = some (.int .i64 pp)) (go_keep)
        (first | (go_at_call 94; refine (gfree_st ph gc bb G R pp (B.now + 1) w2.drew (HK2.out.heap.kept (fun _ _ => rfl)) HOK1.out.simb.sim (by have := HPB.out.2.1; omega)).mono ?_; rw [HFO.out]; rintro e w3 ⟨rfl, hG3, hk3⟩; have HG3 := hide2 hG3; have HKE := hide2 hk3; have c3' : w3.cell? ⟨pb, 3, none⟩ = some (.pointer (some ⟨ph, 0, none⟩)) := ((World.cell?_of_block (w := w2.drew) (hk3.block pb hp2 HGP.out)).trans c3a); have c4' : w3.cell? ⟨pb, 4, none⟩ = some (.slice (some ⟨g, 0, none⟩) B.L.length cap) := ((World.cell?_of_block (w := w2.drew) (hk3.block pb hp2 HGP.out)).trans c4a); have c6' : w3.cell? ⟨pb, 6, none⟩ = some (.int .i64 (B.now + 1)) := ((World.cell?_of_block (w := w2.drew) (hk3.block pb hp2 HGP.out)).trans c6a); have l0' : w3.cell? ⟨g, i * 7, none⟩ = some (.int .i64 pp) := ((World.cell?_of_block (w := w2.drew) (hk3.block g hg2 HGG.out)).trans l0a); clear hG3 hk3))
      have HKE1 : Hid (Kept w2 w3 (GFoot ph gc bb G)) := ⟨HKE.out.os, HKE.out.tape, HKE.out.output, HKE.out.size, HKE.out.block⟩
      have HK3 := hide2 (HK2.out.goes HG3.out (fG_foot HOK1.out.simb.sim pp (B.now + 1) ph gc bb) HKE1.out)
      clear c3a c4a c6a l0a c3' c4' c6' l0'
      go_wp2_with fail
      refine (kleft_any pb ph gc bb (fG G R pp (B.now + 1)) vc _ vF ⟨B.st, B.rest, B.cls, B.L, B.F, B.now + 1⟩ i w3 HK3.out hi (by show B.F.length ≤ _; omega)).mono ?_
      rintro e w4 ⟨vF', rfl, hK4, hk4, hn4⟩
      have HFIN : Hid (KInT (kNext T 2 o1 o2 o3) w0 w4 pb (n + 1)) := by
        have hb3 : Below w0.heap.size w0 w3 := HB2.out.trans (HKE1.out.to_below HB2.out.size (fun b hb => HFT.out b (.inr (.inr (.inl hb)))))
        have hb4 : Below w0.heap.size w0 w4 := hb3.trans (hk4.to_below hb3.size (fun b hb => by
          rcases hb with hb | hb | hb
          · exact HFT.out b (.inl hb)
          · exact HFT.out b (.inr (.inr (.inr (.inl hb))))
          · exact HFT.out b (.inr (.inr (.inr (.inr (.inl hb)))))))
        have hgf := fG_foot HOK1.out.simb.sim pp (B.now + 1) ph gc bb
        have hkk := HOKF.out
        have hs3 := hb3.size
        refine ⟨ph, gc, bb, _, _, vc, _, vF', _, hK4, hkk, HTF.out, by show (B.L.set i _).length ≤ _; rw [List.length_set]; omega, by show (B.F ++ [_]).length ≤ _; simp; omega, by show 0 ≤ B.now + 1; omega, by show B.now + 1 ≤ _; omega, hb4, fun b hb => ?_⟩
        rcases hb with hb | hb | hb | hb | hb | ⟨j, hj, hb⟩
        · exact HFT.out b (.inl hb)
        · exact HFT.out b (.inr (.inl hb))
        · exact HFT.out b (.inr (.inr (.inl ((hgf b).1 hb))))
        · exact HFT.out b (.inr (.inr (.inr (.inl hb))))
        · rcases hn4 b hb with hb | hb
          · exact HFT.out b (.inr (.inr (.inr (.inr (.inl hb)))))
          · omega
        · change j < (B.L.set i _).length at hj
          rw [List.length_set] at hj
          change b = ((B.L.set i ((B.L.getD i KBlk.no).off (B.now + 1))).getD j KBlk.no).wb at hb
          rw [getD_setL _ _ _ _ hi] at hb
          refine HFT.out b (.inr (.inr (.inr (.inr (.inr ⟨j, hj, ?_⟩)))))
          rw [hb]
          by_cases ej : j = i
          · rw [if_pos ej, ej]; rfl
          · rw [if_neg ej]
      clear hK4 hk4 hn4
      go_wp2
      go_ret
      exact ⟨rfl, HFIN.out⟩
    · have hlf : (B.L.getD i KBlk.no).live = false := by cases hq : (B.L.getD i KBlk.no).live; rfl; exact absurd hq hlive
      rw [hlf] at l4
      have HKx := hide2 HK1.out.L
      go_wp2_with fail
      go_region_held3 (fun w' => w'.cell? ⟨pb, 4, none⟩ = some (.slice (some ⟨g, 0, none⟩) B.L.length cap) ∧ w'.cell? ⟨ob, 1, none⟩ = some (.int .i64 o1)) (go_keep)
        (first | (go_at_call 28; refine (kpick_any o1 (B.L.length : Int) w1.drew (by omega) HB.out.1.1 HB.out.1.2).mono ?_; rw [HIE.out]; rintro e w2 ⟨rfl, hwd⟩; have c4' : w2.cell? ⟨pb, 4, none⟩ = some (.slice (some ⟨g, 0, none⟩) B.L.length cap) := (by rw [← hwd]; exact c4); have d1' : w2.cell? ⟨ob, 1, none⟩ = some (.int .i64 o1) := (by rw [← hwd]; exact d1); have HWD := hide2 hwd; clear hwd))
      have c3' : w2.cell? ⟨pb, 3, none⟩ = some (.pointer (some ⟨ph, 0, none⟩)) := by rw [← HWD.out]; exact c3
      have c6' : w2.cell? ⟨pb, 6, none⟩ = some (.int .i64 (B.now + 1)) := by rw [← HWD.out]; exact c6
      have d0' : w2.cell? ⟨ob, 0, none⟩ = some (.int .i64 2) := by rw [← HWD.out]; exact d0
      have d2' : w2.cell? ⟨ob, 2, none⟩ = some (.int .i64 o2) := by rw [← HWD.out]; exact d2
      have d3' : w2.cell? ⟨ob, 3, none⟩ = some (.int .i64 o3) := by rw [← HWD.out]; exact d3
      have l0' : w2.cell? ⟨g, i * 7, none⟩ = some (.int .i64 (B.L.getD i KBlk.no).p) := by rw [← HWD.out]; exact l0
      have l3' : w2.cell? ⟨g, i * 7 + 3, none⟩ = some (.slice (some ⟨(B.L.getD i KBlk.no).wb, 0, none⟩) (B.L.getD i KBlk.no).want.length (B.L.getD i KBlk.no).want.length) := by rw [← HWD.out]; exact l3
      have l4' : w2.cell? ⟨g, i * 7 + 4, none⟩ = some (.bool false) := by rw [← HWD.out]; exact l4
      have HKy : Hid (KRep w2 pb ph gc bb G vc (.slice (some ⟨g, 0, none⟩) B.L.length cap) vF ⟨B.st, B.rest, B.cls, B.L, B.F, B.now + 1⟩) := by show KRep _ _ _ _ _ _ _ _ _ _; rw [← HWD.out]; exact HK1.out.kept (fun _ _ => rfl)
      have HBy : Hid (Below w0.heap.size w0 w2) := by show Below _ _ _; rw [← HWD.out]; exact ⟨HB1.out.os, HB1.out.tape, HB1.out.output, HB1.out.size, HB1.out.block⟩
      have hpy : pb < w2.heap.size := by rw [← HWD.out]; exact hp1
      have hgy : g < w2.heap.size := by rw [← HWD.out]; exact hgl
      have hoy : ob < w2.heap.size := by rw [← HWD.out]; exact ho1
      clear HKx HWD HK1 HB1 hp1 hgl ho1 c3 c4 c6 d0 d1 d2 d3 l0 l3 l4
      obtain ⟨w1, hw1⟩ : ∃ w1, w1 = w2 := ⟨_, rfl⟩
      subst hw1
      have HK1 := HKy
      have HB1 := HBy
      have hp1 := hpy
      have hgl := hgy
      have ho1 := hoy
      have c3 := c3'
      have c4 := c4'
      have c6 := c6'
      have d0 := d0'
      have d1 := d1'
      have d2 := d2'
      have d3 := d3'
      have l0 := l0'
      have l3 := l3'
      have l4 := l4'
      clear HKy HBy hpy hgy hoy c3' c4' c6' d0' d1' d2' d3' l0' l3' l4'
      have HFIN : Hid (KInT (kNext T 2 o1 o2 o3) w0 w1 pb (n + 1)) := ⟨ph, gc, bb, G, R, vc, _, vF, _, HK1.out, HOK1.out, ⟨R, B, HT.out, .dead (by omega) i HIE.out hi hlf⟩, by show B.L.length ≤ _; omega, by show B.F.length ≤ _; omega, by show 0 ≤ B.now + 1; omega, by show B.now + 1 ≤ _; omega, HB1.out, HFT.out⟩
      go_wp2
      go_ret
      exact ⟨rfl, HFIN.out⟩
  · have hl0 : (((B.L.length : Nat) : Int) == 0) = true := by rw [show B.L.length = 0 by omega]; rfl
    obtain ⟨al, cap, hvL, hcap, hmax, _⟩ := row_open HK1.out.L
    change vL = .slice al B.L.length cap at hvL
    subst hvL
    have HFIN : Hid (KInT (kNext T 2 o1 o2 o3) w0 w1 pb (n + 1)) := ⟨ph, gc, bb, G, R, vc, _, vF, _, HK1.out, HOK1.out, ⟨R, B, HT.out, .none (by omega) (by omega)⟩, by show B.L.length ≤ _; omega, by show B.F.length ≤ _; omega, by show 0 ≤ B.now + 1; omega, by show B.now + 1 ≤ _; omega, HB1.out, HFT.out⟩
    go_wp2
    go_ret
    exact ⟨rfl, HFIN.out⟩

end Go.Proofs.Ytjikemhmnkckcaa
