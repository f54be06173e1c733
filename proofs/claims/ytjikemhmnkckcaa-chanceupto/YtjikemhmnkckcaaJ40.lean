import Derived.Test.YtjikemhmnkckcaaJ38
import Derived.Test.YtjikemhmnkckcaaJ34
import Derived.Test.YtjikemhmnkckcaaJ35
namespace Go.Proofs.Ytjikemhmnkckcaa
open Go.RowKit

set_option maxRecDepth 100000 in
set_option maxHeartbeats 3200000 in
theorem kstep_malloc (w0 : World) (pb n : Nat) (o1 o2 o3 : Int) (ex : Bool) (w : World) (h : KIn w0 w pb n) (hn : n < 2000000) (b10 : -9223372036854775808 ≤ o1) (b11 : o1 ≤ 9223372036854775807) (b20 : -9223372036854775808 ≤ o2) (b21 : o2 ≤ 9223372036854775807) (b30 : -9223372036854775808 ≤ o3) (b31 : o3 ≤ 9223372036854775807) :
    Calls Try.prog 55 #[.pointer (some ⟨pb, 0, none⟩), .agg #[.int .i64 1, .int .i64 o1, .int .i64 o2, .int .i64 o3], .bool ex] w fun e w' => e = .returned (.bool true) ∧ KIn w0 w' pb (n + 1) := by
  obtain ⟨ph, gc, bb, G, R, vc, vL, vF, B, hK, hok, hL, hF, n0, n1, hbl, hft⟩ := h
  have HOK := hide2 hok
  have HBL := hide2 hbl
  have HFT := hide2 hft
  have hv : Cf.Valid B.st B.rest B.cls := by rw [hok.st, hok.rest, hok.cls]; exact hok.simb.sim.rok.conf
  have HV := hide2 hv
  have HK := hide2 hK
  have hpb := hK.blk.lt
  have c6 := hK.blk.cell (j := 6) rfl
  have f6 := hK.blk.frozen 6
  have HB := hide2 (And.intro (And.intro b10 b11) (And.intro (And.intro b20 b21) (And.intro b30 b31)))
  clear hok hbl hft hv hK b10 b11 b20 b21 b30 b31
  go_enter Try.func55, Try.ntmps55
  go_wp2_with fail
  obtain ⟨wa, hwa⟩ : ∃ wa, wa = (w.setCell ⟨pb, 6, none⟩ (.int .i64 (B.now + 1))).alloc (.cells #[.int .i64 1, .int .i64 o1, .int .i64 o2, .int .i64 o3] 103) := ⟨_, rfl⟩
  rw [← hwa]
  have hsa : wa.heap.size = w.heap.size + 1 := by rw [hwa, World.size_alloc, World.size_setCell]
  have HKa : Hid (KRep wa pb ph gc bb G vc vL vF ⟨B.st, B.rest, B.cls, B.L, B.F, B.now + 1⟩) := by
    show KRep _ _ _ _ _ _ _ _ _ _
    rw [hwa]
    exact (HK.out.at_now (B.now + 1)).below ((Below.refl _ _).alloc (Nat.le_refl _) _)
  have HO : Hid (Blk wa w.heap.size 103 [.int .i64 1, .int .i64 o1, .int .i64 o2, .int .i64 o3]) := by
    show Blk _ _ _ _
    rw [hwa]
    have := Blk.alloc (w.setCell ⟨pb, 6, none⟩ (.int .i64 (B.now + 1))) 103 [.int .i64 1, .int .i64 o1, .int .i64 o2, .int .i64 o3]
    rw [World.size_setCell] at this
    exact this
  have HBa : Hid (Below w0.heap.size w0 wa) := by
    show Below _ _ _
    rw [hwa]
    have hp0 := HFT.out pb (.inl rfl)
    have hset : Below w0.heap.size w (w.setCell ⟨pb, 6, none⟩ (.int .i64 (B.now + 1))) := ⟨rfl, rfl, rfl, by rw [World.size_setCell]; exact Nat.le_refl _, fun k hk => Below.heap_setCell w _ _ k (by show k ≠ pb; omega)⟩
    refine (HBL.out.trans hset).alloc ?_ _
    rw [World.size_setCell]; exact HBL.out.size
  have HOK1 := hide2 (HOK.out.at_now (B.now + 1))
  have HEX : Hid (kexpect ⟨B.st, B.rest, B.cls, B.L, B.F, B.now + 1⟩ o2 = (mOut R o2 o3).2) := HOK1.out.expect o2 o3
  have hpa : pb < wa.heap.size := by omega
  have hoa : w.heap.size < wa.heap.size := by omega
  have HFG : Hid (∀ b, GFoot ph gc bb G b → b < w.heap.size) := fun b hb => HK.out.heap.foot_lt hb
  clear hwa c6 f6 HK HOK
  obtain ⟨ob, hobe⟩ : ∃ ob, ob = w.heap.size := ⟨_, rfl⟩
  have HOE := hide2 hobe
  rw [← hobe] at HO hoa ⊢
  clear hobe hsa
  refine (kexpect_any pb ph gc bb G vc vL vF ⟨B.st, B.rest, B.cls, B.L, B.F, B.now + 1⟩ o2 wa HKa.out HV.out (by show B.L.length ≤ _; omega)).mono ?_
  rw [HEX.out]
  rintro e1 w1 ⟨rfl, hb1⟩
  have HK1 := hide2 (HKa.out.below hb1)
  have HO1 := hide2 (HO.out.below hb1 hoa)
  have HB1 := hide2 (HBa.out.trans (hb1.mono HBa.out.size))
  have hp1 : pb < w1.heap.size := Nat.lt_of_lt_of_le hpa hb1.size
  have ho1 : ob < w1.heap.size := Nat.lt_of_lt_of_le hoa hb1.size
  have c3 : w1.cell? ⟨pb, 3, none⟩ = some (.pointer (some ⟨ph, 0, none⟩)) := HK1.out.blk.cell (j := 3) rfl
  have c4 : w1.cell? ⟨pb, 4, none⟩ = some vL := HK1.out.blk.cell (j := 4) rfl
  have c6 : w1.cell? ⟨pb, 6, none⟩ = some (.int .i64 (B.now + 1)) := HK1.out.blk.cell (j := 6) rfl
  have d0 := HO1.out.cell (j := 0) rfl
  have d1 := HO1.out.cell (j := 1) rfl
  have d2 := HO1.out.cell (j := 2) rfl
  have d3 := HO1.out.cell (j := 3) rfl
  clear hb1
  have HGP : Hid (¬ GFoot ph gc bb G pb) := fun hx => by
    obtain ⟨col, hs⟩ := HK1.out.sep
    have := hs.g pb hx
    rw [hs.pb] at this; omega
  have e2 : ((mOut R o2 o3).2 == (mOut R o2 o3).2) = true := by simp
  have HGO : Hid (¬ GFoot ph gc bb G ob) := fun hx => by
    have h1 := HFG.out ob hx
    have h2 := HOE.out
    omega
  go_wp2_with fail
  go_region_held3 (fun w' => w'.cell? ⟨pb, 3, none⟩ = some (.pointer (some ⟨ph, 0, none⟩)) ∧ w'.cell? ⟨pb, 6, none⟩ = some (.int .i64 (B.now + 1)) ∧ w'.cell? ⟨ob, 2, none⟩ = some (.int .i64 o2) ∧ w'.cell? ⟨ob, 3, none⟩ = some (.int .i64 o3)) (go_keep)
    (first | (go_at_call 29; refine (gmalloc_all ph gc bb G R o2 o3 (B.now + 1) w1.drew (HK1.out.heap.kept (fun _ _ => rfl)) HOK1.out.simb.sim).mono ?_; rintro e w2 ⟨rfl, hG2, hk2⟩; have HG2 := hide2 hG2; have HKE := hide2 hk2; have c3' : w2.cell? ⟨pb, 3, none⟩ = some (.pointer (some ⟨ph, 0, none⟩)) := ((World.cell?_of_block (w := w1.drew) (hk2.block pb hp1 HGP.out)).trans c3); have c6' : w2.cell? ⟨pb, 6, none⟩ = some (.int .i64 (B.now + 1)) := ((World.cell?_of_block (w := w1.drew) (hk2.block pb hp1 HGP.out)).trans c6); have d2' : w2.cell? ⟨ob, 2, none⟩ = some (.int .i64 o2) := ((World.cell?_of_block (w := w1.drew) (hk2.block ob ho1 HGO.out)).trans d2); have d3' : w2.cell? ⟨ob, 3, none⟩ = some (.int .i64 o3) := ((World.cell?_of_block (w := w1.drew) (hk2.block ob ho1 HGO.out)).trans d3); clear hG2 hk2))
  have HKE1 : Hid (Kept w1 w2 (GFoot ph gc bb G)) := ⟨HKE.out.os, HKE.out.tape, HKE.out.output, HKE.out.size, HKE.out.block⟩
  have HK2 := hide2 (HK1.out.goes HG2.out (mG_foot HOK1.out.simb.sim o2 o3 (B.now + 1) ph gc bb) HKE1.out)
  clear c3 c4 c6 d0 d1 d2 d3 c3' c6' d3'
  go_wp2_with fail
  refine (kcame_any pb ph gc bb G (mG G R o2 o3 (B.now + 1)) R vc vL vF ⟨B.st, B.rest, B.cls, B.L, B.F, B.now + 1⟩ o2 o3 w2 HK2.out HOK1.out (by show B.L.length ≤ _; omega)).mono ?_
  rintro e w3 ⟨rfl, hres⟩
  have HRES := hide2 hres
  have HFIN : Hid (KIn w0 w3 pb (n + 1)) := by
    have hsz1 := HB1.out.size
    have hb2 : Below w0.heap.size w0 w2 := HB1.out.trans (HKE1.out.to_below HB1.out.size (fun b hb => HFT.out b (.inr (.inr (.inl hb)))))
    have hgf := mG_foot HOK1.out.simb.sim o2 o3 (B.now + 1) ph gc bb
    rcases HRES.out with ⟨he, rfl⟩ | ⟨vL', wb, k, s, h1, hk, hkl, hf, hs, hz, hm, hK3, hk3, hn3, hwb⟩
    · refine ⟨ph, gc, bb, _, R, vc, vL, vF, ⟨B.st, B.rest, B.cls, B.L, B.F, B.now + 1⟩, HK2.out, ?_, by show B.L.length ≤ _; omega, by show B.F.length ≤ _; omega, by show 0 ≤ B.now + 1; omega, by show B.now + 1 ≤ _; omega, hb2, fun b hb => HFT.out b (KFoot.glt hgf hb)⟩
      have hmg : mG G R o2 o3 (B.now + 1) = G := if_neg he
      rw [hmg]; exact HOK1.out
    · have hb3 : Below w0.heap.size w0 w3 := hb2.trans (hk3.to_below hb2.size (fun b hb => by
        rcases hb with hb | hb
        · exact HFT.out b (.inl hb)
        · exact HFT.out b (.inr (.inr (.inr (.inl hb))))))
      have hs2 := hb2.size
      refine ⟨ph, gc, bb, _, _, vc, vL', vF, _, hK3, HOK1.out.malloc o2 o3 (B.now + 1) (B.now + 1) rfl wb k s h1 hk hkl hf hs hz hm, by show (B.L ++ [_]).length ≤ _; simp; omega, by show B.F.length ≤ _; omega, by show 0 ≤ B.now + 1; omega, by show B.now + 1 ≤ _; omega, hb3, fun b hb => ?_⟩
      rcases hb with hb | hb | hb | hb | hb | ⟨i, hi, hb⟩
      · exact HFT.out b (.inl hb)
      · exact HFT.out b (.inr (.inl hb))
      · exact HFT.out b (.inr (.inr (.inl ((hgf b).1 hb))))
      · rcases hn3 b hb with hb | hb
        · exact HFT.out b (.inr (.inr (.inr (.inl hb))))
        · omega
      · exact HFT.out b (.inr (.inr (.inr (.inr (.inl hb)))))
      · change i < (B.L ++ [_]).length at hi
        change b = ((B.L ++ [_]).getD i KBlk.no).wb at hb
        rw [getD_appL] at hb
        by_cases ei : i = B.L.length
        · rw [if_pos ei] at hb
          rw [hb]
          show w0.heap.size ≤ wb
          omega
        · rw [if_neg ei] at hb
          exact HFT.out b (.inr (.inr (.inr (.inr (.inr ⟨i, by simp at hi; omega, hb⟩)))))
  clear HRES hres d2'
  cases ex
  all_goals
    go_wp2
    go_ret
    exact ⟨rfl, HFIN.out⟩
end Go.Proofs.Ytjikemhmnkckcaa
/- The book: a block is freed. -/
namespace Go.Proofs.Ytjikemhmnkckcaa
open Go.RowKit


theorem info_spot : (Try.prog.info? 129).map (fun i => (i.zero, i.size, i.bytes)) = some (some (.agg #[.int .i64 0, .int .i64 0]), 2, 16) := by kernel_rfl

set_option maxRecDepth 100000 in
set_option maxHeartbeats 40000000 in
theorem kleft_any (pb ph : Nat) (gc : Value) (bb : Nat) (G : GSt) (vc vL vF : Value) (B : KSt) (i : Nat) (w : World) (h : KRep w pb ph gc bb G vc vL vF B) (hi : i < B.L.length) (hroom : B.F.length ≤ 1000000000) :
    Calls Try.prog 95 #[.pointer (some ⟨pb, 0, none⟩), .int .i64 (i : Int)] w fun e w' => ∃ vF', e = .returned (.tuple #[]) ∧ KRep w' pb ph gc bb G vc vL vF' (kleft B i) ∧
      Kept w w' (fun b => b = pb ∨ vL.ownBlock = some b ∨ vF.ownBlock = some b) ∧ (∀ b, vF'.ownBlock = some b → vF.ownBlock = some b ∨ w.heap.size ≤ b) := by
  obtain ⟨i0, hi0, hz0, hz1, hz2⟩ := info_parts info_spot
  have hLrow := h.L
  obtain ⟨al, cap, rfl, hcap, hmax, hrow⟩ := row_open h.L
  obtain ⟨g, rfl, hgl, hcell, hfrz⟩ := hrow (by omega)
  unfold maxLen at hmax
  have HK := hide2 h
  have hpb := h.blk.lt
  have c4 := h.blk.cell (j := 4) rfl
  have c5 := h.blk.cell (j := 5) rfl
  have c6 := h.blk.cell (j := 6) rfl
  obtain ⟨d0, d1, d2, d3, d4, d5, d6⟩ := kblk_cells hcell i hi
  have f4 := hfrz (i * 7 + 4)
  have f6 := hfrz (i * 7 + 6)
  have hiI : (i : Int) < (B.L.length : Int) := by omega
  have hgp : g ≠ pb := by
    obtain ⟨col, hs⟩ := h.sep
    intro e
    have := hs.vL g rfl
    rw [e, hs.pb] at this; omega
  -- the two fields
  have hr1 := h.field rfl i 4 hi (by omega) (.bool false) ⟨(B.L.getD i KBlk.no).p, (B.L.getD i KBlk.no).k, (B.L.getD i KBlk.no).s, (B.L.getD i KBlk.no).want, (B.L.getD i KBlk.no).wb, false, (B.L.getD i KBlk.no).site, (B.L.getD i KBlk.no).gone⟩ rfl rfl rfl
  obtain ⟨x, hx⟩ : ∃ x, x = B.L.getD i KBlk.no := ⟨_, rfl⟩
  rw [← hx] at hr1 d0 d1 d2 d3 d4 d5 d6
  have hl1 : (B.L.set i ⟨x.p, x.k, x.s, x.want, x.wb, false, x.site, x.gone⟩).length = B.L.length := List.length_set
  have hr2 := hr1.field hl1.symm i 6 (by rw [hl1]; exact hi) (by omega) (.int .i64 B.now) (x.off B.now) (by rw [getD_setL _ _ _ _ hi, if_pos rfl]; rfl) (by rw [getD_setL _ _ _ _ hi, if_pos rfl]; rfl) (by rw [getD_setL _ _ _ _ hi, if_pos rfl]; rfl)
  rw [List.set_set] at hr2
  obtain ⟨w2, hw2⟩ : ∃ w2, w2 = (w.setCell ⟨g, i * 7 + 4, none⟩ (.bool false)).setCell ⟨g, i * 7 + 6, none⟩ (.int .i64 B.now) := ⟨_, rfl⟩
  have HW2 := hide2 hw2
  rw [← hw2] at hr2
  have HR2 := hide2 hr2
  have HX := hide2 hx
  have hk2 : Kept w w2 (fun b => b = g) := by
    rw [hw2]
    exact ((Kept.same w (fun b => b = g)).set ⟨g, i * 7 + 4, none⟩ _ rfl).set ⟨g, i * 7 + 6, none⟩ _ rfl
  have HK2 := hide2 hk2
  have hs2 : w2.heap.size = w.heap.size := by rw [hw2, World.size_setCell, World.size_setCell]
  clear h hLrow hrow hcell hfrz hr1 hr2 hl1 hk2 hx hw2 d0 d3 d5
  go_enter Try.func95, Try.ntmps95
  go_wp2_with fail
  obtain ⟨w1, hw1⟩ : ∃ w1, w1 = w.setCell ⟨g, i * 7 + 4, none⟩ (.bool false) := ⟨_, rfl⟩
  rw [← hw1]
  have hb1 : ∀ b, b ≠ g → w1.heap[b]? = w.heap[b]? := fun b hb => by rw [hw1]; exact Below.heap_setCell w _ _ b hb
  have c4a : w1.cell? ⟨pb, 4, none⟩ = some (.slice (some ⟨g, 0, none⟩) B.L.length cap) := (World.cell?_of_block (w := w) (hb1 pb hgp.symm)).trans c4
  have c6a : w1.cell? ⟨pb, 6, none⟩ = some (.int .i64 B.now) := (World.cell?_of_block (w := w) (hb1 pb hgp.symm)).trans c6
  have HW2a : Hid (w2 = w1.setCell ⟨g, i * 7 + 6, none⟩ (.int .i64 B.now)) := by show _ = _; rw [HW2.out, hw1]
  have d6a : w1.cell? ⟨g, i * 7 + 6, none⟩ = some (.int .i64 x.gone) := by rw [hw1]; exact (World.cell?_setCell_other _ ⟨g, i * 7 + 4, none⟩ ⟨g, i * 7 + 6, none⟩ _ (by intro e; injection e with _ e2 _; omega)).trans d6
  have f6a : w1.frozen? ⟨g, i * 7 + 6, none⟩ = false := by rw [hw1, World.frozen?_setCell]; exact f6
  clear hw1 c4 c6 d4 f4 d6 f6
  go_region
  all_goals
    rw [← HW2a.out]
    obtain ⟨w3, hw3⟩ : ∃ w3, w3 = w2.drew := ⟨_, rfl⟩
    rw [← hw3]
    have HR3 : Hid (KRep w3 pb ph gc bb G vc (.slice (some ⟨g, 0, none⟩) B.L.length cap) vF ⟨B.st, B.rest, B.cls, B.L.set i (x.off B.now), B.F, B.now⟩) := by rw [hw3]; exact HR2.out.kept (fun _ _ => rfl)
    have hs3 : w3.heap.size = w.heap.size := by rw [hw3]; exact hs2
    have HK3 : Hid (Kept w w3 (fun b => b = g)) := by rw [hw3]; exact ⟨HK2.out.os, HK2.out.tape, HK2.out.output, HK2.out.size, HK2.out.block⟩
    have hblk3 := HR3.out.blk
    have e4 : w3.cell? ⟨pb, 4, none⟩ = some (.slice (some ⟨g, 0, none⟩) B.L.length cap) := hblk3.cell (j := 4) rfl
    have e5 := hblk3.cell (j := 5) rfl
    have ef5 := hblk3.frozen 5
    have hp3 := hblk3.lt
    have hll : (B.L.set i (x.off B.now)).length = B.L.length := List.length_set
    obtain ⟨al3, cap3, hv3, _, _, hrow3⟩ := row_open HR3.out.L
    injection hv3 with hv31 hv32 hv33
    clear hv32 hv33
    obtain ⟨g3, hg3, hgl3, hcell3, _⟩ := hrow3 (by show 0 < (B.L.set i _).length; rw [hll]; omega)
    rw [hg3] at hv31
    injection hv31 with hv31
    injection hv31 with hv31 hv34 hv35
    clear hv34 hv35
    subst hv31
    clear hg3
    obtain ⟨_, k1, k2, _, _, _, _⟩ := kblk_cells hcell3 i (by show i < (B.L.set i _).length; rw [hll]; omega)
    rw [getD_setL _ _ _ _ hi, if_pos rfl] at k1 k2
    change w3.cell? ⟨g, i * 7 + 1, none⟩ = some (.int .i64 x.k) at k1
    change w3.cell? ⟨g, i * 7 + 2, none⟩ = some (.int .i64 x.s) at k2
    have hrow : Hid (w3.ownsRow 0 129 2 vF B.F.length (B.F.flatMap spotCells)) := HR3.out.F
    have HAP : Hid (vF.ownBlock ≠ some pb) := fun e => by
      obtain ⟨col, hs⟩ := HR3.out.sep
      have := hs.vF pb e
      rw [hs.pb] at this; omega
    have HGF : Hid (vF.ownBlock ≠ some g) := fun e => by
      obtain ⟨col, hs⟩ := HR3.out.sep
      have h1 := hs.vF g e
      have h2 := hs.vL g rfl
      omega
    have HS3 := hide2 hs3
    have hgp2 : pb ≠ g := hgp.symm
    clear hw3 hblk3 hcell3 hrow3 hs3 hll c4a c6a d6a f6a hb1 d1 d2
    go_wp2_with fail
    clear HK HW2 HR2 HK2 hs2 HW2a c5 hgl w1 HGF hcap hgp2 hgp
    go_region_law ((refine step_append_lies _ (by rfl) _ _ _ (by rfl) 0 129 i0 _ 2 16 Try.underlying49 hi0 hz0 hz1 hz2 rfl (by omega) vF B.F.length (B.F.flatMap spotCells) (by rfl) ((hrow.out.alloc _).drew) ⟨w3.heap.size, 0, none⟩ 1 1 [.int .i64 x.k, .int .i64 x.s] (by rfl) (by rfl) (World.news_of_block (cs := #[.int .i64 x.k, .int .i64 x.s]) (t := 129) (fr := (0, 0)) (heap_alloc_new w3 _)) (by simp [Value.oneCell']) (by omega) (by simp [maxLen]; omega) (by omega) (by simp) (w3.heap.size + 1) (by simp) ?_; intro gg cap2 w7 hown hgrow hat hlt7; have c5' : w7.cell? ⟨pb, 5, none⟩ = some vF := (by rw [hgrow.cell_far _ (by simp; omega) (fun e => HAP.out e.symm), World.cell?_drew, World.cell?_alloc_lt _ _ _ hp3]; exact e5); have f5' : w7.frozen? ⟨pb, 5, none⟩ = false := (by rw [hgrow.frozen_far _ (by simp; omega) (fun e => HAP.out e.symm), World.frozen?_drew, World.frozen?_alloc_old _ _ _ (by show pb ≠ _; omega)]; exact ef5)))
    all_goals
      have hs3 := HS3.out
      have hg7 : (w3.alloc (.cells #[.int .i64 x.k, .int .i64 x.s] 129)).grownBy w7 vF.ownBlock := ⟨hgrow.os, hgrow.tape, hgrow.output, hgrow.size, hgrow.block⟩
      have hs7 := hg7.size
      rw [World.size_alloc] at hs7
      have hk7 : Kept w3 w7 (fun b => vF.ownBlock = some b) := ⟨hg7.os, hg7.tape, hg7.output, by omega, fun b hb hn => by
        rw [hg7.block b (by rw [World.size_alloc]; omega) (fun e => hn e.symm)]
        exact Below.heap_alloc w3 _ b hb⟩
      have hpush := HR3.out.pushF (x.k, x.s) hown hk7 (hat.imp id (fun e => by omega))
      clear hg7 hk7
      go_end0
      refine ⟨.slice (some ⟨gg, 0, none⟩) (B.F.length + 1) cap2, rfl, ?_, ?_, fun b hb => ?_⟩
      · unfold kleft
        rw [← HX.out]
        exact hpush.1
      · refine (HK3.out.mono fun b _ hb => .inr (.inl (by rw [hb]; rfl))).trans (hpush.2.mono fun b _ hb => ?_)
        rcases hb with hb | hb
        · exact .inl hb
        · exact .inr (.inr hb)
      · simp [Value.ownBlock] at hb
        subst hb
        rcases hat with e | e
        · exact .inl e
        · right; omega
end Go.Proofs.Ytjikemhmnkckcaa
