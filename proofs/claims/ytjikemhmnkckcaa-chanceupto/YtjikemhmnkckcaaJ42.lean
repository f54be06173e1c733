import Derived.Test.YtjikemhmnkckcaaJ38
import Derived.Test.YtjikemhmnkckcaaJ40
namespace Go.Proofs.Ytjikemhmnkckcaa
open Go.RowKit

set_option maxRecDepth 100000 in
set_option maxHeartbeats 3200000 in
theorem kstep_write (w0 : World) (pb n : Nat) (o1 o2 o3 : Int) (ex : Bool) (w : World) (h : KIn w0 w pb n) (hn : n < 2000000) (b10 : -9223372036854775808 ≤ o1) (b11 : o1 ≤ 9223372036854775807) (b20 : -9223372036854775808 ≤ o2) (b21 : o2 ≤ 9223372036854775807) (b30 : -9223372036854775808 ≤ o3) (b31 : o3 ≤ 9223372036854775807) :
    Calls Try.prog 55 #[.pointer (some ⟨pb, 0, none⟩), .agg #[.int .i64 3, .int .i64 o1, .int .i64 o2, .int .i64 o3], .bool ex] w fun e w' => e = .returned (.bool true) ∧ KIn w0 w' pb (n + 1) := by
  obtain ⟨ph, gc, bb, G, R, vc, vL, vF, B, hK, hok, hL, hF, n0, n1, hbl, hft⟩ := h
  have HOK := hide2 hok
  have HBL := hide2 hbl
  have HFT := hide2 hft
  have hv : Cf.Valid B.st B.rest B.cls := by rw [hok.st, hok.rest, hok.cls]; exact hok.simb.sim.rok.conf
  have HV := hide2 hv
  have HK := hide2 hK
  have hpb := hK.blk.lt
  have c6 := hK.blk.cell (j := 6) rfl
  have f6 := hK.blk.frozen 6
  have HB := hide2 (And.intro (And.intro b10 b11) (And.intro (And.intro b20 b21) (And.intro b30 b31)))
  clear hok hbl hft hv hK b10 b11 b20 b21 b30 b31
  go_enter Try.func55, Try.ntmps55
  go_wp2_with fail
  obtain ⟨wa, hwa⟩ : ∃ wa, wa = (w.setCell ⟨pb, 6, none⟩ (.int .i64 (B.now + 1))).alloc (.cells #[.int .i64 3, .int .i64 o1, .int .i64 o2, .int .i64 o3] 103) := ⟨_, rfl⟩
  rw [← hwa]
  have hsa : wa.heap.size = w.heap.size + 1 := by rw [hwa, World.size_alloc, World.size_setCell]
  have HKa : Hid (KRep wa pb ph gc bb G vc vL vF ⟨B.st, B.rest, B.cls, B.L, B.F, B.now + 1⟩) := by
    show KRep _ _ _ _ _ _ _ _ _ _
    rw [hwa]
    exact (HK.out.at_now (B.now + 1)).below ((Below.refl _ _).alloc (Nat.le_refl _) _)
  have HO : Hid (Blk wa w.heap.size 103 [.int .i64 3, .int .i64 o1, .int .i64 o2, .int .i64 o3]) := by
    show Blk _ _ _ _
    rw [hwa]
    have := Blk.alloc (w.setCell ⟨pb, 6, none⟩ (.int .i64 (B.now + 1))) 103 [.int .i64 3, .int .i64 o1, .int .i64 o2, .int .i64 o3]
    rw [World.size_setCell] at this
    exact this
  have HBa : Hid (Below w0.heap.size w0 wa) := by
    show Below _ _ _
    rw [hwa]
    have hp0 := HFT.out pb (.inl rfl)
    have hset : Below w0.heap.size w (w.setCell ⟨pb, 6, none⟩ (.int .i64 (B.now + 1))) := ⟨rfl, rfl, rfl, by rw [World.size_setCell]; exact Nat.le_refl _, fun k hk => Below.heap_setCell w _ _ k (by show k ≠ pb; omega)⟩
    refine (HBL.out.trans hset).alloc ?_ _
    rw [World.size_setCell]; exact HBL.out.size
  have HOK1 := hide2 (HOK.out.at_now (B.now + 1))
  have HEX : Hid (kexpect ⟨B.st, B.rest, B.cls, B.L, B.F, B.now + 1⟩ o2 = (mOut R o2 o3).2) := HOK1.out.expect o2 o3
  have hpa : pb < wa.heap.size := by omega
  have hoa : w.heap.size < wa.heap.size := by omega
  have HFG : Hid (∀ b, GFoot ph gc bb G b → b < w.heap.size) := fun b hb => HK.out.heap.foot_lt hb
  clear hwa c6 f6 HK HOK
  obtain ⟨ob, hobe⟩ : ∃ ob, ob = w.heap.size := ⟨_, rfl⟩
  have HOE := hide2 hobe
  rw [← hobe] at HO hoa ⊢
  clear hobe hsa
  refine (kexpect_any pb ph gc bb G vc vL vF ⟨B.st, B.rest, B.cls, B.L, B.F, B.now + 1⟩ o2 wa HKa.out HV.out (by show B.L.length ≤ _; omega)).mono ?_
  rw [HEX.out]
  rintro e1 w1 ⟨rfl, hb1⟩
  have HK1 := hide2 (HKa.out.below hb1)
  have HO1 := hide2 (HO.out.below hb1 hoa)
  have HB1 := hide2 (HBa.out.trans (hb1.mono HBa.out.size))
  have hp1 : pb < w1.heap.size := Nat.lt_of_lt_of_le hpa hb1.size
  have ho1 : ob < w1.heap.size := Nat.lt_of_lt_of_le hoa hb1.size
  have c3 : w1.cell? ⟨pb, 3, none⟩ = some (.pointer (some ⟨ph, 0, none⟩)) := HK1.out.blk.cell (j := 3) rfl
  have c4 : w1.cell? ⟨pb, 4, none⟩ = some vL := HK1.out.blk.cell (j := 4) rfl
  have c6 : w1.cell? ⟨pb, 6, none⟩ = some (.int .i64 (B.now + 1)) := HK1.out.blk.cell (j := 6) rfl
  have d0 := HO1.out.cell (j := 0) rfl
  have d1 := HO1.out.cell (j := 1) rfl
  have d2 := HO1.out.cell (j := 2) rfl
  have d3 := HO1.out.cell (j := 3) rfl
  clear hb1
  by_cases hpos : 0 < B.L.length
  · have hpos' := hpos
    have HGP : Hid (¬ GFoot ph gc bb G pb) := fun hx => by
      obtain ⟨col, hs⟩ := HK1.out.sep
      have := hs.g pb hx
      rw [hs.pb] at this; omega
    have HGO : Hid (¬ GFoot ph gc bb G ob) := fun hx => by
      have h1 := HFG.out ob hx
      have h2 := HOE.out
      omega
    obtain ⟨al, cap, hvL, hcap, hmax, hrow⟩ := row_open HK1.out.L
    change vL = .slice al B.L.length cap at hvL
    subst hvL
    change 0 < B.L.length → _ at hrow
    obtain ⟨g, rfl, hgl, hcell, hfrz⟩ := hrow hpos
    unfold maxLen at hmax
    have hlz : (((B.L.length : Nat) : Int) == 0) = false := by rw [beq_eq_false_iff_ne]; omega
    have hkb := kpick_bd o1 B.L.length (by omega)
    obtain ⟨i, hie⟩ := Int.eq_ofNat_of_zero_le hkb.1
    have HIE := hide2 hie
    have hi : i < B.L.length := by omega
    have hiI : (i : Int) < (B.L.length : Int) := by omega
    have i0 : (0 : Int) ≤ (i : Int) := by omega
    obtain ⟨l0, _, _, l3, l4, _, _⟩ := kblk_cells hcell i hi
    change w1.cell? ⟨g, i * 7, none⟩ = some (.int .i64 (B.L.getD i KBlk.no).p) at l0
    change w1.cell? ⟨g, i * 7 + 3, none⟩ = some (.slice (some ⟨(B.L.getD i KBlk.no).wb, 0, none⟩) (B.L.getD i KBlk.no).want.length (B.L.getD i KBlk.no).want.length) at l3
    change w1.cell? ⟨g, i * 7 + 4, none⟩ = some (.bool (B.L.getD i KBlk.no).live) at l4
    have HGG : Hid (¬ GFoot ph gc bb G g) := fun hx => by
      obtain ⟨col, hs⟩ := HK1.out.sep
      have h1 := hs.g g hx
      have h2 := hs.vL g rfl
      omega
    clear hrow hcell hfrz hkb hie
    by_cases hlive : (B.L.getD i KBlk.no).live = true
    · rw [hlive] at l4
      obtain ⟨k, s, hli⟩ := HOK1.out.live i hi hlive
      change KLive R (B.L.getD i KBlk.no) k s at hli
      have hbd := hli.bd HOK1.out.simb
      have hpp := hli.p
      have hwp := kpick_bd o2 (B.L.getD i KBlk.no).want.length (by omega)
      obtain ⟨j, hje⟩ := Int.eq_ofNat_of_zero_le hwp.1
      have HJE := hide2 hje
      have hj : j < (B.L.getD i KBlk.no).want.length := by omega
      have HWR := hide2 (HOK1.out.write i j hi hlive hj o3)
      have HPB : Hid (0 ≤ (B.L.getD i KBlk.no).p ∧ (B.L.getD i KBlk.no).p ≤ 2000000000000000000 ∧ (B.L.getD i KBlk.no).want.length ≤ 128) := by
        refine ⟨?_, ?_, ?_⟩ <;> omega
      have hwl : 0 < (B.L.getD i KBlk.no).want.length := by omega
      clear hli hbd hpp hwp hje
      have HKx := hide2 HK1.out.L
      go_wp2_with fail
      go_region_held3 (fun w' => w'.cell? ⟨pb, 4, none⟩ = some (.slice (some ⟨g, 0, none⟩) B.L.length cap) ∧ w'.cell? ⟨ob, 1, none⟩ = some (.int .i64 o1)) (go_keep)
        (first | (go_at_call 28; refine (kpick_any o1 (B.L.length : Int) w1.drew (by omega) HB.out.1.1 HB.out.1.2).mono ?_; rw [HIE.out]; rintro e w2 ⟨rfl, hwd⟩; have c4' : w2.cell? ⟨pb, 4, none⟩ = some (.slice (some ⟨g, 0, none⟩) B.L.length cap) := (by rw [← hwd]; exact c4); have d1' : w2.cell? ⟨ob, 1, none⟩ = some (.int .i64 o1) := (by rw [← hwd]; exact d1); have HWD := hide2 hwd; clear hwd))
      have c3' : w2.cell? ⟨pb, 3, none⟩ = some (.pointer (some ⟨ph, 0, none⟩)) := by rw [← HWD.out]; exact c3
      have c6' : w2.cell? ⟨pb, 6, none⟩ = some (.int .i64 (B.now + 1)) := by rw [← HWD.out]; exact c6
      have d0' : w2.cell? ⟨ob, 0, none⟩ = some (.int .i64 3) := by rw [← HWD.out]; exact d0
      have d2' : w2.cell? ⟨ob, 2, none⟩ = some (.int .i64 o2) := by rw [← HWD.out]; exact d2
      have d3' : w2.cell? ⟨ob, 3, none⟩ = some (.int .i64 o3) := by rw [← HWD.out]; exact d3
      have l0' : w2.cell? ⟨g, i * 7, none⟩ = some (.int .i64 (B.L.getD i KBlk.no).p) := by rw [← HWD.out]; exact l0
      have l3' : w2.cell? ⟨g, i * 7 + 3, none⟩ = some (.slice (some ⟨(B.L.getD i KBlk.no).wb, 0, none⟩) (B.L.getD i KBlk.no).want.length (B.L.getD i KBlk.no).want.length) := by rw [← HWD.out]; exact l3
      have l4' : w2.cell? ⟨g, i * 7 + 4, none⟩ = some (.bool true) := by rw [← HWD.out]; exact l4
      have HKy : Hid (KRep w2 pb ph gc bb G vc (.slice (some ⟨g, 0, none⟩) B.L.length cap) vF ⟨B.st, B.rest, B.cls, B.L, B.F, B.now + 1⟩) := by show KRep _ _ _ _ _ _ _ _ _ _; rw [← HWD.out]; exact HK1.out.kept (fun _ _ => rfl)
      have HBy : Hid (Below w0.heap.size w0 w2) := by show Below _ _ _; rw [← HWD.out]; exact ⟨HB1.out.os, HB1.out.tape, HB1.out.output, HB1.out.size, HB1.out.block⟩
      have hpy : pb < w2.heap.size := by rw [← HWD.out]; exact hp1
      have hgy : g < w2.heap.size := by rw [← HWD.out]; exact hgl
      have hoy : ob < w2.heap.size := by rw [← HWD.out]; exact ho1
      clear HKx HWD HK1 HB1 hp1 hgl ho1 c3 c4 c6 d0 d1 d2 d3 l0 l3 l4
      obtain ⟨w1, hw1⟩ : ∃ w1, w1 = w2 := ⟨_, rfl⟩
      subst hw1
      have HK1 := HKy
      have HB1 := HBy
      have hp1 := hpy
      have hgl := hgy
      have ho1 := hoy
      have c3 := c3'
      have c4 := c4'
      have c6 := c6'
      have d0 := d0'
      have d1 := d1'
      have d2 := d2'
      have d3 := d3'
      have l0 := l0'
      have l3 := l3'
      have l4 := l4'
      clear HKy HBy hpy hgy hoy c3' c4' c6' d0' d1' d2' d3' l0' l3' l4'
      obtain ⟨x, hx⟩ : ∃ x, x = B.L.getD i KBlk.no := ⟨_, rfl⟩
      have HXX := hide2 hx
      change Hid (R.storeErr ((B.L.getD i KBlk.no).p + j) 1 = 0 ∧ KOk ⟨B.st, B.rest, B.cls, B.L.set i ((B.L.getD i KBlk.no).withWant ((B.L.getD i KBlk.no).want.set j (o3 % 256))), B.F, B.now + 1⟩ (G.store R ((B.L.getD i KBlk.no).p + j) 1 o3) (R.store ((B.L.getD i KBlk.no).p + j) 1 o3)) at HWR
      have HWB : Hid (Blk w1 (B.L.getD i KBlk.no).wb 3 ((B.L.getD i KBlk.no).want.map (Value.int .i64))) := HK1.out.want i hi
      rw [← hx] at HWR HPB HJE HWB hj hwl l0 l3
      clear hx
      have HGW : Hid (¬ GFoot ph gc bb G x.wb ∧ x.wb ≠ pb ∧ x.wb ≠ g) := by
        obtain ⟨col, hs⟩ := HK1.out.sep
        have h1 := hs.want i hi
        change col (B.L.getD i KBlk.no).wb = 5 + i at h1
        rw [← HXX.out] at h1
        refine ⟨fun hh => ?_, fun hh => ?_, fun hh => ?_⟩
        · have := hs.g _ hh; omega
        · rw [hh, hs.pb] at h1; omega
        · have := hs.vL g rfl; rw [hh] at h1; omega
      have hwlt := HWB.out.lt
      have hjI : (j : Int) < (x.want.length : Int) := by omega
      have j0 : (0 : Int) ≤ (j : Int) := by omega
      go_wp2_with fail
      clear l4
      go_region_held3 (fun w' => w'.cell? ⟨pb, 4, none⟩ = some (.slice (some ⟨g, 0, none⟩) B.L.length cap) ∧ w'.cell? ⟨ob, 2, none⟩ = some (.int .i64 o2) ∧ w'.cell? ⟨g, i * 7 + 3, none⟩ = some (.slice (some ⟨x.wb, 0, none⟩) x.want.length x.want.length)) (go_keep)
        (first | (go_at_call 28; refine (kpick_any o2 (x.want.length : Int) w1.drew (by omega) HB.out.2.1.1 HB.out.2.1.2).mono ?_; rw [HJE.out]; rintro e w2 ⟨rfl, hwd⟩; have c4' : w2.cell? ⟨pb, 4, none⟩ = some (.slice (some ⟨g, 0, none⟩) B.L.length cap) := (by rw [← hwd]; exact c4); have d2' : w2.cell? ⟨ob, 2, none⟩ = some (.int .i64 o2) := (by rw [← hwd]; exact d2); have l3' : w2.cell? ⟨g, i * 7 + 3, none⟩ = some (.slice (some ⟨x.wb, 0, none⟩) x.want.length x.want.length) := (by rw [← hwd]; exact l3); have HWD := hide2 hwd; clear hwd))
      have c3' : w2.cell? ⟨pb, 3, none⟩ = some (.pointer (some ⟨ph, 0, none⟩)) := by rw [← HWD.out]; exact c3
      have d3' : w2.cell? ⟨ob, 3, none⟩ = some (.int .i64 o3) := by rw [← HWD.out]; exact d3
      have l0' : w2.cell? ⟨g, i * 7, none⟩ = some (.int .i64 x.p) := by rw [← HWD.out]; exact l0
      have HK2 : Hid (KRep w2 pb ph gc bb G vc (.slice (some ⟨g, 0, none⟩) B.L.length cap) vF ⟨B.st, B.rest, B.cls, B.L, B.F, B.now + 1⟩) := by show KRep _ _ _ _ _ _ _ _ _ _; rw [← HWD.out]; exact HK1.out.kept (fun _ _ => rfl)
      have HB2 : Hid (Below w0.heap.size w0 w2) := by show Below _ _ _; rw [← HWD.out]; exact ⟨HB1.out.os, HB1.out.tape, HB1.out.output, HB1.out.size, HB1.out.block⟩
      have HW2 : Hid (Blk w2 x.wb 3 (x.want.map (Value.int .i64))) := by show Blk _ _ _ _; rw [← HWD.out]; exact HWB.out
      have hp2 : pb < w2.heap.size := by rw [← HWD.out]; exact hp1
      have hg2 : g < w2.heap.size := by rw [← HWD.out]; exact hgl
      have ho2 : ob < w2.heap.size := by rw [← HWD.out]; exact ho1
      have hw2 : x.wb < w2.heap.size := by rw [← HWD.out]; exact hwlt
      clear HWD HK1 HB1 HWB hp1 hgl ho1 hwlt c3 c4 c6 d0 d1 d2 d3 l0 l3 d2'
      have HER := hide2 HWR.out.1
      have hpj : IntKind.i64.wrap (x.p + (j : Int)) = x.p + (j : Int) := by have := HPB.out; rw [IntKind.wrap_i64]; omega
      have hpj2 : x.p + (j : Int) ≤ 9223372036854775807 := by have := HPB.out; omega
      go_wp2_with fail
      go_region_held3 (fun w' => w'.cell? ⟨pb, 3, none⟩ = some (.pointer (some ⟨ph, 0, none⟩)) ∧ w'.cell? ⟨pb, 4, none⟩ = some (.slice (some ⟨g, 0, none⟩) B.L.length cap) ∧ w'.cell? ⟨g, i * 7, none⟩ = some (.int .i64 x.p) ∧ w'.cell? ⟨ob, 3, none⟩ = some (.int .i64 o3)) (go_keep)
        (first | (go_at_call 84; refine (gstore_any ph gc bb G R (x.p + (j : Int)) 1 o3 w2.drew (HK2.out.heap.kept (fun _ _ => rfl)) HOK1.out.simb hpj2 HB.out.2.2.1 HB.out.2.2.2).mono ?_; rw [HER.out]; rintro e w3 ⟨rfl, hG3, hk3⟩; have HG3 := hide2 hG3; have HKE := hide2 hk3; have e3' : w3.cell? ⟨pb, 3, none⟩ = some (.pointer (some ⟨ph, 0, none⟩)) := ((World.cell?_of_block (w := w2.drew) (hk3.block pb hp2 HGP.out)).trans c3'); have e4' : w3.cell? ⟨pb, 4, none⟩ = some (.slice (some ⟨g, 0, none⟩) B.L.length cap) := ((World.cell?_of_block (w := w2.drew) (hk3.block pb hp2 HGP.out)).trans c4'); have m0' : w3.cell? ⟨g, i * 7, none⟩ = some (.int .i64 x.p) := ((World.cell?_of_block (w := w2.drew) (hk3.block g hg2 HGG.out)).trans l0'); have f3' : w3.cell? ⟨ob, 3, none⟩ = some (.int .i64 o3) := ((World.cell?_of_block (w := w2.drew) (hk3.block ob ho2 HGO.out)).trans d3'); clear hG3 hk3))
      have HKE1 : Hid (Kept w2 w3 (GFoot ph gc bb G)) := ⟨HKE.out.os, HKE.out.tape, HKE.out.output, HKE.out.size, HKE.out.block⟩
      have HK3 := hide2 (HK2.out.goes HG3.out (G.store_foot R (x.p + (j : Int)) 1 o3 ph gc bb) HKE1.out)
      have m3 : w3.cell? ⟨g, i * 7 + 3, none⟩ = some (.slice (some ⟨x.wb, 0, none⟩) x.want.length x.want.length) := (World.cell?_of_block (w := w2) (HKE1.out.block g hg2 HGG.out)).trans l3'
      have HW3 : Hid (Blk w3 x.wb 3 (x.want.map (Value.int .i64))) := (HKE1.out.block x.wb hw2 HGW.out.1).trans HW2.out
      have mj := HW3.out.cell (j := j) (v := .int .i64 (x.want.getD j 0)) (by rw [List.getElem?_map, List.getElem?_eq_getElem hj]; simp [List.getD_eq_getElem?_getD, List.getElem?_eq_getElem hj])
      have mf := HW3.out.frozen j
      have HS3 := HKE1.out.size
      have HBI := hide2 (and_i64 o3)
      have hbi : bits .and .i64 o3 255 = o3 % 256 := and_i64 o3
      generalize x.want.getD j 0 = old at *
      clear c3' c4' l0' d3' l3' e3' m0'
      go_wp2_with fail
      go_region
      all_goals
        have HFIN : Hid (KIn w0 ((w3.setCell ⟨x.wb, j, none⟩ (.int .i64 (o3 % 256))).drew) pb (n + 1)) := by
          have hb3 : Below w0.heap.size w0 w3 := HB2.out.trans (HKE1.out.to_below HB2.out.size (fun b hb => HFT.out b (.inr (.inr (.inl hb)))))
          have hkw : Kept w3 ((w3.setCell ⟨x.wb, j, none⟩ (.int .i64 (o3 % 256))).drew) (· = x.wb) := by
            have h1 := (Kept.same w3 (· = x.wb)).set ⟨x.wb, j, none⟩ (.int .i64 (o3 % 256)) rfl
            exact ⟨h1.os, h1.tape, h1.output, h1.size, h1.block⟩
          have hwf : w0.heap.size ≤ x.wb := by rw [HXX.out]; exact HFT.out _ (.inr (.inr (.inr (.inr (.inr ⟨i, hi, rfl⟩)))))
          have hb4 : Below w0.heap.size w0 ((w3.setCell ⟨x.wb, j, none⟩ (.int .i64 (o3 % 256))).drew) := hb3.trans (hkw.to_below hb3.size (fun b hb => by rw [hb]; exact hwf))
          have hbw : Blk ((w3.setCell ⟨x.wb, j, none⟩ (.int .i64 (o3 % 256))).drew) x.wb 3 ((x.want.set j (o3 % 256)).map (Value.int .i64)) := by
            have h1 := HW3.out.setCell j (.int .i64 (o3 % 256))
            rw [← List.map_set] at h1
            exact h1
          have hfin := HK3.out.wants (w' := (w3.setCell ⟨x.wb, j, none⟩ (.int .i64 (o3 % 256))).drew) i hi (x.want.set j (o3 % 256)) (by show _ = (B.L.getD i KBlk.no).want.length; rw [← HXX.out, List.length_set]) (by show Blk _ (B.L.getD i KBlk.no).wb _ _; rw [← HXX.out]; exact hbw) (by show Kept _ _ (· = (B.L.getD i KBlk.no).wb); rw [← HXX.out]; exact hkw)
          change KRep _ pb ph gc bb _ vc _ vF ⟨B.st, B.rest, B.cls, B.L.set i ((B.L.getD i KBlk.no).withWant (x.want.set j (o3 % 256))), B.F, B.now + 1⟩ at hfin
          rw [← HXX.out] at hfin
          have hgf := G.store_foot R (x.p + (j : Int)) 1 o3 ph gc bb
          refine ⟨ph, gc, bb, _, _, vc, _, vF, _, hfin, HWR.out.2, by show (B.L.set i _).length ≤ _; rw [List.length_set]; omega, by show B.F.length ≤ _; omega, by show 0 ≤ B.now + 1; omega, by show B.now + 1 ≤ _; omega, hb4, fun b hb => ?_⟩
          rcases hb with hb | hb | hb | hb | hb | ⟨t, ht, hb⟩
          · exact HFT.out b (.inl hb)
          · exact HFT.out b (.inr (.inl hb))
          · exact HFT.out b (.inr (.inr (.inl ((hgf b).1 hb))))
          · exact HFT.out b (.inr (.inr (.inr (.inl hb))))
          · exact HFT.out b (.inr (.inr (.inr (.inr (.inl hb)))))
          · change t < (B.L.set i _).length at ht
            rw [List.length_set] at ht
            change b = ((B.L.set i (x.withWant (x.want.set j (o3 % 256)))).getD t KBlk.no).wb at hb
            rw [getD_setL _ _ _ _ hi] at hb
            refine HFT.out b (.inr (.inr (.inr (.inr (.inr ⟨t, ht, ?_⟩)))))
            rw [hb]
            by_cases et : t = i
            · rw [if_pos et, et, ← HXX.out]; rfl
            · rw [if_neg et]
        clear mj mf m3 e4' f3'
        go_wp2
        go_ret
        exact ⟨rfl, HFIN.out⟩
    · have hlf : (B.L.getD i KBlk.no).live = false := by cases hq : (B.L.getD i KBlk.no).live; rfl; exact absurd hq hlive
      rw [hlf] at l4
      have HKx := hide2 HK1.out.L
      go_wp2_with fail
      go_region_held3 (fun w' => w'.cell? ⟨pb, 4, none⟩ = some (.slice (some ⟨g, 0, none⟩) B.L.length cap) ∧ w'.cell? ⟨ob, 1, none⟩ = some (.int .i64 o1)) (go_keep)
        (first | (go_at_call 28; refine (kpick_any o1 (B.L.length : Int) w1.drew (by omega) HB.out.1.1 HB.out.1.2).mono ?_; rw [HIE.out]; rintro e w2 ⟨rfl, hwd⟩; have c4' : w2.cell? ⟨pb, 4, none⟩ = some (.slice (some ⟨g, 0, none⟩) B.L.length cap) := (by rw [← hwd]; exact c4); have d1' : w2.cell? ⟨ob, 1, none⟩ = some (.int .i64 o1) := (by rw [← hwd]; exact d1); have HWD := hide2 hwd; clear hwd))
      have c3' : w2.cell? ⟨pb, 3, none⟩ = some (.pointer (some ⟨ph, 0, none⟩)) := by rw [← HWD.out]; exact c3
      have c6' : w2.cell? ⟨pb, 6, none⟩ = some (.int .i64 (B.now + 1)) := by rw [← HWD.out]; exact c6
      have d0' : w2.cell? ⟨ob, 0, none⟩ = some (.int .i64 3) := by rw [← HWD.out]; exact d0
      have d2' : w2.cell? ⟨ob, 2, none⟩ = some (.int .i64 o2) := by rw [← HWD.out]; exact d2
      have d3' : w2.cell? ⟨ob, 3, none⟩ = some (.int .i64 o3) := by rw [← HWD.out]; exact d3
      have l0' : w2.cell? ⟨g, i * 7, none⟩ = some (.int .i64 (B.L.getD i KBlk.no).p) := by rw [← HWD.out]; exact l0
      have l3' : w2.cell? ⟨g, i * 7 + 3, none⟩ = some (.slice (some ⟨(B.L.getD i KBlk.no).wb, 0, none⟩) (B.L.getD i KBlk.no).want.length (B.L.getD i KBlk.no).want.length) := by rw [← HWD.out]; exact l3
      have l4' : w2.cell? ⟨g, i * 7 + 4, none⟩ = some (.bool false) := by rw [← HWD.out]; exact l4
      have HKy : Hid (KRep w2 pb ph gc bb G vc (.slice (some ⟨g, 0, none⟩) B.L.length cap) vF ⟨B.st, B.rest, B.cls, B.L, B.F, B.now + 1⟩) := by show KRep _ _ _ _ _ _ _ _ _ _; rw [← HWD.out]; exact HK1.out.kept (fun _ _ => rfl)
      have HBy : Hid (Below w0.heap.size w0 w2) := by show Below _ _ _; rw [← HWD.out]; exact ⟨HB1.out.os, HB1.out.tape, HB1.out.output, HB1.out.size, HB1.out.block⟩
      have hpy : pb < w2.heap.size := by rw [← HWD.out]; exact hp1
      have hgy : g < w2.heap.size := by rw [← HWD.out]; exact hgl
      have hoy : ob < w2.heap.size := by rw [← HWD.out]; exact ho1
      clear HKx HWD HK1 HB1 hp1 hgl ho1 c3 c4 c6 d0 d1 d2 d3 l0 l3 l4
      obtain ⟨w1, hw1⟩ : ∃ w1, w1 = w2 := ⟨_, rfl⟩
      subst hw1
      have HK1 := HKy
      have HB1 := HBy
      have hp1 := hpy
      have hgl := hgy
      have ho1 := hoy
      have c3 := c3'
      have c4 := c4'
      have c6 := c6'
      have d0 := d0'
      have d1 := d1'
      have d2 := d2'
      have d3 := d3'
      have l0 := l0'
      have l3 := l3'
      have l4 := l4'
      clear HKy HBy hpy hgy hoy c3' c4' c6' d0' d1' d2' d3' l0' l3' l4'
      have HFIN : Hid (KIn w0 w1 pb (n + 1)) := ⟨ph, gc, bb, G, R, vc, _, vF, _, HK1.out, HOK1.out, by show B.L.length ≤ _; omega, by show B.F.length ≤ _; omega, by show 0 ≤ B.now + 1; omega, by show B.now + 1 ≤ _; omega, HB1.out, HFT.out⟩
      go_wp2
      go_ret
      exact ⟨rfl, HFIN.out⟩
  · have hl0 : (((B.L.length : Nat) : Int) == 0) = true := by rw [show B.L.length = 0 by omega]; rfl
    obtain ⟨al, cap, hvL, hcap, hmax, _⟩ := row_open HK1.out.L
    change vL = .slice al B.L.length cap at hvL
    subst hvL
    have HFIN : Hid (KIn w0 w1 pb (n + 1)) := ⟨ph, gc, bb, G, R, vc, _, vF, _, HK1.out, HOK1.out, by show B.L.length ≤ _; omega, by show B.F.length ≤ _; omega, by show 0 ≤ B.now + 1; omega, by show B.now + 1 ≤ _; omega, HB1.out, HFT.out⟩
    go_wp2
    go_ret
    exact ⟨rfl, HFIN.out⟩

end Go.Proofs.Ytjikemhmnkckcaa
