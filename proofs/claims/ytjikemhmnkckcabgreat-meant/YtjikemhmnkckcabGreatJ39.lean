import Derived.Test.YtjikemhmnkckcabGreatJ35
namespace Go.Proofs.YtjikemhmnkckcabGreat
open Go.RowKit
attribute [local go_sem ↓] Go.wp_at_zero Go.wp_at_succ
theorem three_boxes (w : World) (x y z : List Value) (t : TypeId) :
 ∃ wa, wa = ((w.alloc (.cells x.toArray t)).alloc (.cells y.toArray t)).alloc (.cells z.toArray t) ∧ Below w.heap.size w wa ∧ Blk wa w.heap.size t x ∧ Blk wa (w.heap.size + 1) t y ∧ Blk wa (w.heap.size + 1 + 1) t z := by
 refine ⟨_, rfl, ((Below.refl _ _).alloc (Nat.le_refl _) _).alloc (by simp) _ |>.alloc (by simp; omega) _, ?_, ?_, ?_⟩
 ·exact (Below.heap_alloc _ _ _ (by simp; omega)).trans ((Below.heap_alloc _ _ _ (by simp)).trans (heap_alloc_new w _))
 ·refine (Below.heap_alloc _ _ _ (by simp)).trans ?_;have := heap_alloc_new (w.alloc (.cells x.toArray t)) (.cells y.toArray t);rw [World.size_alloc] at this; exact this
 ·have := heap_alloc_new ((w.alloc (.cells x.toArray t)).alloc (.cells y.toArray t)) (.cells z.toArray t);rw [World.size_alloc, World.size_alloc] at this; exact this
section
variable (F : IFix) (wB : World) (vT vF : Value) (V : List Value) (col : Nat → Nat) (S : IS) (w : World)
set_option maxRecDepth 100000 in
set_option maxHeartbeats 12800000 in
theorem isum_any (h : IRep F wB w vT vF V col S) (hg : IGood F S) (op : Int) (hop : op = 2 ∨ op = 3 ∨ op = 4 ∨ op = 5) (a b : IV) (ha : a.of < S.T.length) (hb : b.of < S.T.length) (hlen : S.T.length ≤ 1000000) :
 Calls Tryz.prog 68 #[.pointer (some ⟨F.mb, 0, none⟩), .int .i64 op, vV a, vV b] w fun e w' => e = .returned (.tuple #[vV (kvOf (iSum S.T op a b)), .bool (iSum S.T op a b).isSome]) ∧ Below w.heap.size w w' := by
 obtain ⟨ao, an⟩ := a;obtain ⟨bo, bn⟩ := b;have HVA : Hid (vV ⟨ao, an⟩ = .agg #[.int .i64 (ao : Int), .int .i64 an]) := rfl;have HVB : Hid (vV ⟨bo, bn⟩ = .agg #[.int .i64 (bo : Int), .int .i64 bn]) := rfl;rw [HVA.out, HVB.out];simp only at ha hb;obtain ⟨wa, hwa, hba, hxa, hya, hza⟩ := three_boxes w [.int .i64 (ao : Int), .int .i64 an] [.int .i64 (bo : Int), .int .i64 bn] [.int .i64 0, .int .i64 0] 107;have HR := hide2 (h.under hba);have HG := hide2 hg;have HB := hide2 hba;have HX := hide2 hxa;have HY := hide2 hya;have HZ := hide2 hza;have x0 := hxa.cell (j := 0) rfl;have x1 := hxa.cell (j := 1) rfl;have y0 := hya.cell (j := 0) rfl;have y1 := hya.cell (j := 1) rfl;clear h hg hba hxa hya hza;go_enter Tryz.func68, Tryz.ntmps68;go_upto_region 1 with (fail);rw [show (((w.alloc (.cells #[.int .i64 (ao : Int), .int .i64 an] 107)).alloc (.cells #[.int .i64 (bo : Int), .int .i64 bn] 107)).alloc (.cells #[.int .i64 0, .int .i64 0] 107)) = wa from hwa.symm];clear hwa
 go_wp2_with fail
 rw [← HVA.out];refine (iwithin_any F wB vT vF V col S wa HR.out ⟨ao, an⟩ HG.out ha).mono ?_;rintro e1 w1 ⟨rfl, hb1⟩;have y0' := (hb1.cell (p := ⟨w.heap.size + 1, 0, none⟩) HY.out.lt).trans y0;have y1' := (hb1.cell (p := ⟨w.heap.size + 1, 1, none⟩) HY.out.lt).trans y1;have HR1 := hide2 (HR.out.under hb1)
 go_wp2_with fail
 rw [← HVB.out];refine (iwithin_any F wB vT vF V col S w1 HR1.out ⟨bo, bn⟩ HG.out hb).mono ?_;rintro e2 w2 ⟨rfl, hb2⟩;have HB2 : Hid (Below wa.heap.size wa w2) := hb1.trans (hb2.mono hb1.size);have HX2 := hide2 (HX.out.below HB2.out HX.out.lt);have HY2 := hide2 (HY.out.below HB2.out HY.out.lt);have HZ2 := hide2 (HZ.out.below HB2.out HZ.out.lt)
 have HFIN : Hid (∀ (w3 : World) (v v' : Value), Below w2.heap.size w2 w3 → Below w.heap.size w ((w3.setCell ⟨w.heap.size + 1 + 1, 0, none⟩ v).setCell ⟨w.heap.size + 1 + 1, 1, none⟩ v')) := fun w3 v v' h3 => by
  have e := (HB.out.trans (HB2.out.mono HB.out.size))
  have e3 := e.trans (h3.mono e.size);exact (e3.setCell (p := ⟨w.heap.size + 1 + 1, 0, none⟩) (by show _ ≤ w.heap.size + 1 + 1; omega) _).setCell (p := ⟨w.heap.size + 1 + 1, 1, none⟩) (by show _ ≤ w.heap.size + 1 + 1; omega) _
 have HRF : Below w2.heap.size w2 w2 := Below.refl _ _;clear x0 x1 y0 y1 y0' y1' hb1 hb2 HX HY HZ HR HR1;have x0 := HX2.out.cell (j := 0) rfl;have x1 := HX2.out.cell (j := 1) rfl;have y0 := HY2.out.cell (j := 0) rfl;have y1 := HY2.out.cell (j := 1) rfl;obtain ⟨ia, hia⟩ : ∃ ia, iWithin S.T ⟨ao, an⟩ = ia := ⟨_, rfl⟩
 obtain ⟨ib, hib⟩ : ∃ ib, iWithin S.T ⟨bo, bn⟩ = ib := ⟨_, rfl⟩
 have HIA := hide2 hia;have HIB := hide2 hib;rw [hia, hib];clear hia hib
 rcases hop with rfl | rfl | rfl | rfl
 ·by_cases qa : ao = 0
  ·have HS : Hid (iSum S.T 2 ⟨ao, an⟩ ⟨bo, bn⟩ = some ⟨ao + bo, wrap64 (an + bn)⟩) := by
    show _ = _;unfold iSum;rw [HIA.out, HIB.out]
    dsimp only
    rw [if_pos ⟨rfl, by omega⟩]
   have abT : ((ao : Int) == 0) = true := by simp [qa]
   clear HIA HIB qa;have r0 := HZ2.out.cell (j := 0) rfl;have r1 := HZ2.out.cell (j := 1) rfl;have f0 := HZ2.out.frozen 0;have f1 := HZ2.out.frozen 1;go_wp2;refine bodyPost_ret (v := .tuple #[.agg #[.int .i64 ((ao : Int) + (bo : Int)), .int .i64 (wrap64 (an + bn))], .bool true]) (by simp [results, Tryz.results68, go_sem, r0, r1]) rfl ⟨by rw [HS.out]; rfl, ?_⟩;exact HFIN.out _ _ _ (by assumption)
  ·by_cases qb : bo = 0
   ·have HS : Hid (iSum S.T 2 ⟨ao, an⟩ ⟨bo, bn⟩ = some ⟨ao + bo, wrap64 (an + bn)⟩) := by
     show _ = _;unfold iSum;rw [HIA.out, HIB.out]
     dsimp only
     rw [if_pos ⟨rfl, by omega⟩]
    have abF : ((ao : Int) == 0) = false := by simp; omega
    have bbT : ((bo : Int) == 0) = true := by simp [qb]
    clear HIA HIB qa qb;have r0 := HZ2.out.cell (j := 0) rfl;have r1 := HZ2.out.cell (j := 1) rfl;have f0 := HZ2.out.frozen 0;have f1 := HZ2.out.frozen 1;go_wp2;refine bodyPost_ret (v := .tuple #[.agg #[.int .i64 ((ao : Int) + (bo : Int)), .int .i64 (wrap64 (an + bn))], .bool true]) (by simp [results, Tryz.results68, go_sem, r0, r1]) rfl ⟨by rw [HS.out]; rfl, ?_⟩;exact HFIN.out _ _ _ (by assumption)
   ·have HS : Hid (iSum S.T 2 ⟨ao, an⟩ ⟨bo, bn⟩ = none) := by
     show _ = _;unfold iSum;rw [HIA.out, HIB.out]
     dsimp only
     rw [if_neg (fun x => by have := x.2; omega), if_neg (fun x => absurd x.1 (by decide)), if_neg (fun x => absurd x.1 (by decide)), if_neg (fun x => absurd x.1 (by decide)), if_neg (fun x => absurd x.1 (by decide)), if_neg (fun x => absurd x.1 (by decide)), if_neg (fun x => absurd x.1 (by decide))]
    have abF : ((ao : Int) == 0) = false := by simp; omega
    have bbF : ((bo : Int) == 0) = false := by simp; omega
    clear HIA HIB qa qb;have r0 := HZ2.out.cell (j := 0) rfl;have r1 := HZ2.out.cell (j := 1) rfl;have f0 := HZ2.out.frozen 0;have f1 := HZ2.out.frozen 1;go_wp2;refine bodyPost_ret (v := .tuple #[.agg #[.int .i64 0, .int .i64 0], .bool false]) (by simp [results, Tryz.results68, go_sem, r0, r1]) rfl ⟨by rw [HS.out]; rfl, ?_⟩;exact HFIN.out _ _ _ (by assumption)
 ·by_cases qb : bo = 0
  ·have HS : Hid (iSum S.T 3 ⟨ao, an⟩ ⟨bo, bn⟩ = some ⟨ao, wrap64 (an - bn)⟩) := by
    show _ = _;unfold iSum;rw [HIA.out, HIB.out]
    dsimp only
    rw [if_neg (fun x => absurd x.1 (by decide)), if_pos ⟨rfl, qb⟩]
   have bbT : ((bo : Int) == 0) = true := by simp [qb]
   clear HIA HIB qb;have r0 := HZ2.out.cell (j := 0) rfl;have r1 := HZ2.out.cell (j := 1) rfl;have f0 := HZ2.out.frozen 0;have f1 := HZ2.out.frozen 1;go_wp2;refine bodyPost_ret (v := .tuple #[.agg #[.int .i64 (ao : Int), .int .i64 (wrap64 (an - bn))], .bool true]) (by simp [results, Tryz.results68, go_sem, r0, r1]) rfl ⟨by rw [HS.out]; rfl, ?_⟩;exact HFIN.out _ _ _ (by assumption)
  ·by_cases qe : ao = bo
   ·have HS : Hid (iSum S.T 3 ⟨ao, an⟩ ⟨bo, bn⟩ = some ⟨0, wrap64 (an - bn)⟩) := by
     show _ = _;unfold iSum;rw [HIA.out, HIB.out]
     dsimp only
     rw [if_neg (fun x => absurd x.1 (by decide)), if_neg (fun x => qb x.2), if_pos ⟨rfl, qe⟩]
    have bbF : ((bo : Int) == 0) = false := by simp; omega
    have ebT : ((ao : Int) == (bo : Int)) = true := by simp [qe]
    clear HIA HIB qb qe;have r0 := HZ2.out.cell (j := 0) rfl;have r1 := HZ2.out.cell (j := 1) rfl;have f0 := HZ2.out.frozen 0;have f1 := HZ2.out.frozen 1;go_wp2;refine bodyPost_ret (v := .tuple #[.agg #[.int .i64 0, .int .i64 (wrap64 (an - bn))], .bool true]) (by simp [results, Tryz.results68, go_sem, r0, r1]) rfl ⟨by rw [HS.out]; rfl, ?_⟩;exact HFIN.out _ _ _ (by assumption)
   ·have HS : Hid (iSum S.T 3 ⟨ao, an⟩ ⟨bo, bn⟩ = none) := by
     show _ = _;unfold iSum;rw [HIA.out, HIB.out]
     dsimp only
     rw [if_neg (fun x => absurd x.1 (by decide)), if_neg (fun x => qb x.2), if_neg (fun x => qe x.2), if_neg (fun x => absurd x.1 (by decide)), if_neg (fun x => absurd x.1 (by decide)), if_neg (fun x => absurd x.1 (by decide)), if_neg (fun x => absurd x.1 (by decide))]
    have bbF : ((bo : Int) == 0) = false := by simp; omega
    have ebF : ((ao : Int) == (bo : Int)) = false := by simp; omega
    clear HIA HIB qb qe;have r0 := HZ2.out.cell (j := 0) rfl;have r1 := HZ2.out.cell (j := 1) rfl;have f0 := HZ2.out.frozen 0;have f1 := HZ2.out.frozen 1;go_wp2;refine bodyPost_ret (v := .tuple #[.agg #[.int .i64 0, .int .i64 0], .bool false]) (by simp [results, Tryz.results68, go_sem, r0, r1]) rfl ⟨by rw [HS.out]; rfl, ?_⟩;exact HFIN.out _ _ _ (by assumption)
 ·by_cases qa : ao = 0
  ·by_cases qb : bo = 0
   ·by_cases qn : an < bn
    ·have HS : Hid (iSum S.T 4 ⟨ao, an⟩ ⟨bo, bn⟩ = some (iTruth true)) := by
      show _ = _;unfold iSum;rw [HIA.out, HIB.out]
      dsimp only
      rw [if_neg (fun x => absurd x.1 (by decide)), if_neg (fun x => absurd x.1 (by decide)), if_neg (fun x => absurd x.1 (by decide)), if_neg (fun x => absurd x.1 (by decide)), if_neg (fun x => absurd x.1 (by decide)), if_pos ⟨rfl, qa, qb⟩, decide_eq_true qn]
     have abT : ((ao : Int) == 0) = true := by simp [qa]
     have bbT : ((bo : Int) == 0) = true := by simp [qb]
     clear HIA HIB qa qb
     go_wp2_with fail
     refine (truth_any true w2).mono ?_;rintro e3 w3 ⟨rfl, hb3⟩;rw [show vV (iTruth true) = .agg #[.int .i64 0, .int .i64 1] from rfl];have hZ3 := HZ2.out.below hb3 HZ2.out.lt;have r0 := hZ3.cell (j := 0) rfl;have r1 := hZ3.cell (j := 1) rfl;have f0 := hZ3.frozen 0;have f1 := hZ3.frozen 1;go_wp2;refine bodyPost_ret (v := .tuple #[.agg #[.int .i64 0, .int .i64 1], .bool true]) (by simp [results, Tryz.results68, go_sem, r0, r1]) rfl ⟨by rw [HS.out]; rfl, ?_⟩;exact HFIN.out _ _ _ (by assumption)
    ·have HS : Hid (iSum S.T 4 ⟨ao, an⟩ ⟨bo, bn⟩ = some (iTruth false)) := by
      show _ = _;unfold iSum;rw [HIA.out, HIB.out]
      dsimp only
      rw [if_neg (fun x => absurd x.1 (by decide)), if_neg (fun x => absurd x.1 (by decide)), if_neg (fun x => absurd x.1 (by decide)), if_neg (fun x => absurd x.1 (by decide)), if_neg (fun x => absurd x.1 (by decide)), if_pos ⟨rfl, qa, qb⟩, decide_eq_false qn]
     have nd : decide (an < bn) = false := decide_eq_false qn;have abT : ((ao : Int) == 0) = true := by simp [qa]
     have bbT : ((bo : Int) == 0) = true := by simp [qb]
     clear HIA HIB qa qb
     go_wp2_with fail
     refine (truth_any false w2).mono ?_;rintro e3 w3 ⟨rfl, hb3⟩;rw [show vV (iTruth false) = .agg #[.int .i64 0, .int .i64 0] from rfl];have hZ3 := HZ2.out.below hb3 HZ2.out.lt;have r0 := hZ3.cell (j := 0) rfl;have r1 := hZ3.cell (j := 1) rfl;have f0 := hZ3.frozen 0;have f1 := hZ3.frozen 1;go_wp2;refine bodyPost_ret (v := .tuple #[.agg #[.int .i64 0, .int .i64 0], .bool true]) (by simp [results, Tryz.results68, go_sem, r0, r1]) rfl ⟨by rw [HS.out]; rfl, ?_⟩;exact HFIN.out _ _ _ (by assumption)
   ·have qe : ao ≠ bo := by omega
    have HS : Hid (iSum S.T 4 ⟨ao, an⟩ ⟨bo, bn⟩ = none) := by
     show _ = _;unfold iSum;rw [HIA.out, HIB.out]
     dsimp only
     rw [if_neg (fun x => absurd x.1 (by decide)), if_neg (fun x => absurd x.1 (by decide)), if_neg (fun x => absurd x.1 (by decide)), if_neg (fun x => absurd x.1 (by decide)), if_neg (fun x => absurd x.1 (by decide)), if_neg (fun x => by have := x.2; omega), if_neg (fun x => by first | exact absurd x.2.2.1 (by decide) | exact absurd x.2.2.2 (by decide) | exact qe x.2.1)]
    have abT : ((ao : Int) == 0) = true := by simp [qa]
    have bbF : ((bo : Int) == 0) = false := by simp; omega
    have ebF : ((ao : Int) == (bo : Int)) = false := by simp; omega
    clear HIA HIB qa qb qe;have r0 := HZ2.out.cell (j := 0) rfl;have r1 := HZ2.out.cell (j := 1) rfl;have f0 := HZ2.out.frozen 0;have f1 := HZ2.out.frozen 1;go_wp2;refine bodyPost_ret (v := .tuple #[.agg #[.int .i64 0, .int .i64 0], .bool false]) (by simp [results, Tryz.results68, go_sem, r0, r1]) rfl ⟨by rw [HS.out]; rfl, ?_⟩;exact HFIN.out _ _ _ (by assumption)
  ·by_cases qe : ao = bo
   ·cases ia
    ·have HS : Hid (iSum S.T 4 ⟨ao, an⟩ ⟨bo, bn⟩ = none) := by
      show _ = _;unfold iSum;rw [HIA.out, HIB.out]
      dsimp only
      rw [if_neg (fun x => absurd x.1 (by decide)), if_neg (fun x => absurd x.1 (by decide)), if_neg (fun x => absurd x.1 (by decide)), if_neg (fun x => absurd x.1 (by decide)), if_neg (fun x => absurd x.1 (by decide)), if_neg (fun x => by have := x.2; omega), if_neg (fun x => by first | exact absurd x.2.2.1 (by decide) | exact absurd x.2.2.2 (by decide) | exact qe x.2.1)]
     have abF : ((ao : Int) == 0) = false := by simp; omega
     have ebT : ((ao : Int) == (bo : Int)) = true := by simp [qe]
     clear HIA HIB qa qe;have r0 := HZ2.out.cell (j := 0) rfl;have r1 := HZ2.out.cell (j := 1) rfl;have f0 := HZ2.out.frozen 0;have f1 := HZ2.out.frozen 1;go_wp2;refine bodyPost_ret (v := .tuple #[.agg #[.int .i64 0, .int .i64 0], .bool false]) (by simp [results, Tryz.results68, go_sem, r0, r1]) rfl ⟨by rw [HS.out]; rfl, ?_⟩;exact HFIN.out _ _ _ (by assumption)
    ·cases ib
     ·have HS : Hid (iSum S.T 4 ⟨ao, an⟩ ⟨bo, bn⟩ = none) := by
       show _ = _;unfold iSum;rw [HIA.out, HIB.out]
       dsimp only
       rw [if_neg (fun x => absurd x.1 (by decide)), if_neg (fun x => absurd x.1 (by decide)), if_neg (fun x => absurd x.1 (by decide)), if_neg (fun x => absurd x.1 (by decide)), if_neg (fun x => absurd x.1 (by decide)), if_neg (fun x => by have := x.2; omega), if_neg (fun x => by first | exact absurd x.2.2.1 (by decide) | exact absurd x.2.2.2 (by decide) | exact qe x.2.1)]
      have abF : ((ao : Int) == 0) = false := by simp; omega
      have ebT : ((ao : Int) == (bo : Int)) = true := by simp [qe]
      clear HIA HIB qa qe;have r0 := HZ2.out.cell (j := 0) rfl;have r1 := HZ2.out.cell (j := 1) rfl;have f0 := HZ2.out.frozen 0;have f1 := HZ2.out.frozen 1;go_wp2;refine bodyPost_ret (v := .tuple #[.agg #[.int .i64 0, .int .i64 0], .bool false]) (by simp [results, Tryz.results68, go_sem, r0, r1]) rfl ⟨by rw [HS.out]; rfl, ?_⟩;exact HFIN.out _ _ _ (by assumption)
     ·by_cases qn : an < bn
      ·have HS : Hid (iSum S.T 4 ⟨ao, an⟩ ⟨bo, bn⟩ = some (iTruth true)) := by
        show _ = _;unfold iSum;rw [HIA.out, HIB.out]
        dsimp only
        rw [if_neg (fun x => absurd x.1 (by decide)), if_neg (fun x => absurd x.1 (by decide)), if_neg (fun x => absurd x.1 (by decide)), if_neg (fun x => absurd x.1 (by decide)), if_neg (fun x => absurd x.1 (by decide)), if_neg (fun x => by have := x.2; omega), if_pos ⟨rfl, qe, rfl, rfl⟩, decide_eq_true qn]
       have abF : ((ao : Int) == 0) = false := by simp; omega
       have ebT : ((ao : Int) == (bo : Int)) = true := by simp [qe]
       clear HIA HIB qa qe
       go_wp2_with fail
       refine (truth_any true w2).mono ?_;rintro e3 w3 ⟨rfl, hb3⟩;rw [show vV (iTruth true) = .agg #[.int .i64 0, .int .i64 1] from rfl];have hZ3 := HZ2.out.below hb3 HZ2.out.lt;have r0 := hZ3.cell (j := 0) rfl;have r1 := hZ3.cell (j := 1) rfl;have f0 := hZ3.frozen 0;have f1 := hZ3.frozen 1;go_wp2;refine bodyPost_ret (v := .tuple #[.agg #[.int .i64 0, .int .i64 1], .bool true]) (by simp [results, Tryz.results68, go_sem, r0, r1]) rfl ⟨by rw [HS.out]; rfl, ?_⟩;exact HFIN.out _ _ _ (by assumption)
      ·have HS : Hid (iSum S.T 4 ⟨ao, an⟩ ⟨bo, bn⟩ = some (iTruth false)) := by
        show _ = _;unfold iSum;rw [HIA.out, HIB.out]
        dsimp only
        rw [if_neg (fun x => absurd x.1 (by decide)), if_neg (fun x => absurd x.1 (by decide)), if_neg (fun x => absurd x.1 (by decide)), if_neg (fun x => absurd x.1 (by decide)), if_neg (fun x => absurd x.1 (by decide)), if_neg (fun x => by have := x.2; omega), if_pos ⟨rfl, qe, rfl, rfl⟩, decide_eq_false qn]
       have nd : decide (an < bn) = false := decide_eq_false qn;have abF : ((ao : Int) == 0) = false := by simp; omega
       have ebT : ((ao : Int) == (bo : Int)) = true := by simp [qe]
       clear HIA HIB qa qe
       go_wp2_with fail
       refine (truth_any false w2).mono ?_;rintro e3 w3 ⟨rfl, hb3⟩;rw [show vV (iTruth false) = .agg #[.int .i64 0, .int .i64 0] from rfl];have hZ3 := HZ2.out.below hb3 HZ2.out.lt;have r0 := hZ3.cell (j := 0) rfl;have r1 := hZ3.cell (j := 1) rfl;have f0 := hZ3.frozen 0;have f1 := hZ3.frozen 1;go_wp2;refine bodyPost_ret (v := .tuple #[.agg #[.int .i64 0, .int .i64 0], .bool true]) (by simp [results, Tryz.results68, go_sem, r0, r1]) rfl ⟨by rw [HS.out]; rfl, ?_⟩;exact HFIN.out _ _ _ (by assumption)
   ·have HS : Hid (iSum S.T 4 ⟨ao, an⟩ ⟨bo, bn⟩ = none) := by
     show _ = _;unfold iSum;rw [HIA.out, HIB.out]
     dsimp only
     rw [if_neg (fun x => absurd x.1 (by decide)), if_neg (fun x => absurd x.1 (by decide)), if_neg (fun x => absurd x.1 (by decide)), if_neg (fun x => absurd x.1 (by decide)), if_neg (fun x => absurd x.1 (by decide)), if_neg (fun x => by have := x.2; omega), if_neg (fun x => by first | exact absurd x.2.2.1 (by decide) | exact absurd x.2.2.2 (by decide) | exact qe x.2.1)]
    have abF : ((ao : Int) == 0) = false := by simp; omega
    have ebF : ((ao : Int) == (bo : Int)) = false := by simp; omega
    clear HIA HIB qa qe;have r0 := HZ2.out.cell (j := 0) rfl;have r1 := HZ2.out.cell (j := 1) rfl;have f0 := HZ2.out.frozen 0;have f1 := HZ2.out.frozen 1;go_wp2;refine bodyPost_ret (v := .tuple #[.agg #[.int .i64 0, .int .i64 0], .bool false]) (by simp [results, Tryz.results68, go_sem, r0, r1]) rfl ⟨by rw [HS.out]; rfl, ?_⟩;exact HFIN.out _ _ _ (by assumption)
 ·by_cases qe : ao = bo
  ·by_cases qn : an = bn
   ·have HS : Hid (iSum S.T 5 ⟨ao, an⟩ ⟨bo, bn⟩ = some (iTruth true)) := by
     show _ = _;unfold iSum;rw [HIA.out, HIB.out]
     dsimp only
     rw [if_neg (fun x => absurd x.1 (by decide)), if_neg (fun x => absurd x.1 (by decide)), if_neg (fun x => absurd x.1 (by decide)), if_pos ⟨rfl, qe⟩, decide_eq_true qn]
    have ebT : ((ao : Int) == (bo : Int)) = true := by simp [qe]
    have nbT : (an == bn) = true := by simp [qn]
    clear HIA HIB qe qn
    go_wp2_with fail
    refine (truth_any true w2).mono ?_;rintro e3 w3 ⟨rfl, hb3⟩;rw [show vV (iTruth true) = .agg #[.int .i64 0, .int .i64 1] from rfl];have hZ3 := HZ2.out.below hb3 HZ2.out.lt;have r0 := hZ3.cell (j := 0) rfl;have r1 := hZ3.cell (j := 1) rfl;have f0 := hZ3.frozen 0;have f1 := hZ3.frozen 1;go_wp2;refine bodyPost_ret (v := .tuple #[.agg #[.int .i64 0, .int .i64 1], .bool true]) (by simp [results, Tryz.results68, go_sem, r0, r1]) rfl ⟨by rw [HS.out]; rfl, ?_⟩;exact HFIN.out _ _ _ (by assumption)
   ·have HS : Hid (iSum S.T 5 ⟨ao, an⟩ ⟨bo, bn⟩ = some (iTruth false)) := by
     show _ = _;unfold iSum;rw [HIA.out, HIB.out]
     dsimp only
     rw [if_neg (fun x => absurd x.1 (by decide)), if_neg (fun x => absurd x.1 (by decide)), if_neg (fun x => absurd x.1 (by decide)), if_pos ⟨rfl, qe⟩, decide_eq_false qn]
    have ebT : ((ao : Int) == (bo : Int)) = true := by simp [qe]
    have nbF : (an == bn) = false := by simp [qn]
    clear HIA HIB qe qn
    go_wp2_with fail
    refine (truth_any false w2).mono ?_;rintro e3 w3 ⟨rfl, hb3⟩;rw [show vV (iTruth false) = .agg #[.int .i64 0, .int .i64 0] from rfl];have hZ3 := HZ2.out.below hb3 HZ2.out.lt;have r0 := hZ3.cell (j := 0) rfl;have r1 := hZ3.cell (j := 1) rfl;have f0 := hZ3.frozen 0;have f1 := hZ3.frozen 1;go_wp2;refine bodyPost_ret (v := .tuple #[.agg #[.int .i64 0, .int .i64 0], .bool true]) (by simp [results, Tryz.results68, go_sem, r0, r1]) rfl ⟨by rw [HS.out]; rfl, ?_⟩;exact HFIN.out _ _ _ (by assumption)
  ·cases ia
   ·cases ib
    ·have HS : Hid (iSum S.T 5 ⟨ao, an⟩ ⟨bo, bn⟩ = none) := by
      show _ = _;unfold iSum;rw [HIA.out, HIB.out]
      dsimp only
      rw [if_neg (fun x => absurd x.1 (by decide)), if_neg (fun x => absurd x.1 (by decide)), if_neg (fun x => absurd x.1 (by decide)), if_neg (fun x => qe x.2), if_neg (fun x => by rcases x.2 with y | y <;> first | exact absurd y.1 (by decide) | (have := y.2; omega)), if_neg (fun x => absurd x.1 (by decide)), if_neg (fun x => absurd x.1 (by decide))]
     have ebF : ((ao : Int) == (bo : Int)) = false := by simp; omega
     clear HIA HIB qe;have r0 := HZ2.out.cell (j := 0) rfl;have r1 := HZ2.out.cell (j := 1) rfl;have f0 := HZ2.out.frozen 0;have f1 := HZ2.out.frozen 1;go_wp2;refine bodyPost_ret (v := .tuple #[.agg #[.int .i64 0, .int .i64 0], .bool false]) (by simp [results, Tryz.results68, go_sem, r0, r1]) rfl ⟨by rw [HS.out]; rfl, ?_⟩;exact HFIN.out _ _ _ (by assumption)
    ·by_cases qa : ao = 0
     ·by_cases qza : an = 0
      ·have HS : Hid (iSum S.T 5 ⟨ao, an⟩ ⟨bo, bn⟩ = some ⟨0, 0⟩) := by
        show _ = _;unfold iSum;rw [HIA.out, HIB.out]
        dsimp only
        rw [if_neg (fun x => absurd x.1 (by decide)), if_neg (fun x => absurd x.1 (by decide)), if_neg (fun x => absurd x.1 (by decide)), if_neg (fun x => qe x.2), if_pos ⟨rfl, by first | exact .inl ⟨rfl, qb, qzb⟩ | exact .inr ⟨rfl, qa, qza⟩⟩]
       have ebF : ((ao : Int) == (bo : Int)) = false := by simp; omega
       have abT : ((ao : Int) == 0) = true := by simp [qa]
       have zaT : (an == 0) = true := by simp [qza]
       clear HIA HIB qe qa qza;have r0 := HZ2.out.cell (j := 0) rfl;have r1 := HZ2.out.cell (j := 1) rfl;have f0 := HZ2.out.frozen 0;have f1 := HZ2.out.frozen 1;go_wp2;refine bodyPost_ret (v := .tuple #[.agg #[.int .i64 0, .int .i64 0], .bool true]) (by simp [results, Tryz.results68, go_sem, r0, r1]) rfl ⟨by rw [HS.out]; rfl, ?_⟩;exact HFIN.out _ _ _ (by assumption)
      ·have HS : Hid (iSum S.T 5 ⟨ao, an⟩ ⟨bo, bn⟩ = none) := by
        show _ = _;unfold iSum;rw [HIA.out, HIB.out]
        dsimp only
        rw [if_neg (fun x => absurd x.1 (by decide)), if_neg (fun x => absurd x.1 (by decide)), if_neg (fun x => absurd x.1 (by decide)), if_neg (fun x => qe x.2), if_neg (fun x => by rcases x.2 with y | y <;> first | exact absurd y.1 (by decide) | (have := y.2; omega)), if_neg (fun x => absurd x.1 (by decide)), if_neg (fun x => absurd x.1 (by decide))]
       have ebF : ((ao : Int) == (bo : Int)) = false := by simp; omega
       have abT : ((ao : Int) == 0) = true := by simp [qa]
       have zaF : (an == 0) = false := by simp [qza]
       clear HIA HIB qe qa qza;have r0 := HZ2.out.cell (j := 0) rfl;have r1 := HZ2.out.cell (j := 1) rfl;have f0 := HZ2.out.frozen 0;have f1 := HZ2.out.frozen 1;go_wp2;refine bodyPost_ret (v := .tuple #[.agg #[.int .i64 0, .int .i64 0], .bool false]) (by simp [results, Tryz.results68, go_sem, r0, r1]) rfl ⟨by rw [HS.out]; rfl, ?_⟩;exact HFIN.out _ _ _ (by assumption)
     ·have HS : Hid (iSum S.T 5 ⟨ao, an⟩ ⟨bo, bn⟩ = none) := by
       show _ = _;unfold iSum;rw [HIA.out, HIB.out]
       dsimp only
       rw [if_neg (fun x => absurd x.1 (by decide)), if_neg (fun x => absurd x.1 (by decide)), if_neg (fun x => absurd x.1 (by decide)), if_neg (fun x => qe x.2), if_neg (fun x => by rcases x.2 with y | y <;> first | exact absurd y.1 (by decide) | (have := y.2; omega)), if_neg (fun x => absurd x.1 (by decide)), if_neg (fun x => absurd x.1 (by decide))]
      have ebF : ((ao : Int) == (bo : Int)) = false := by simp; omega
      have abF : ((ao : Int) == 0) = false := by simp; omega
      clear HIA HIB qe qa;have r0 := HZ2.out.cell (j := 0) rfl;have r1 := HZ2.out.cell (j := 1) rfl;have f0 := HZ2.out.frozen 0;have f1 := HZ2.out.frozen 1;go_wp2;refine bodyPost_ret (v := .tuple #[.agg #[.int .i64 0, .int .i64 0], .bool false]) (by simp [results, Tryz.results68, go_sem, r0, r1]) rfl ⟨by rw [HS.out]; rfl, ?_⟩;exact HFIN.out _ _ _ (by assumption)
   ·by_cases qb : bo = 0
    ·by_cases qzb : bn = 0
     ·have HS : Hid (iSum S.T 5 ⟨ao, an⟩ ⟨bo, bn⟩ = some ⟨0, 0⟩) := by
       show _ = _;unfold iSum;rw [HIA.out, HIB.out]
       dsimp only
       rw [if_neg (fun x => absurd x.1 (by decide)), if_neg (fun x => absurd x.1 (by decide)), if_neg (fun x => absurd x.1 (by decide)), if_neg (fun x => qe x.2), if_pos ⟨rfl, by first | exact .inl ⟨rfl, qb, qzb⟩ | exact .inr ⟨rfl, qa, qza⟩⟩]
      have ebF : ((ao : Int) == (bo : Int)) = false := by simp; omega
      have bbT : ((bo : Int) == 0) = true := by simp [qb]
      have zbT : (bn == 0) = true := by simp [qzb]
      clear HIA HIB qe qb qzb;have r0 := HZ2.out.cell (j := 0) rfl;have r1 := HZ2.out.cell (j := 1) rfl;have f0 := HZ2.out.frozen 0;have f1 := HZ2.out.frozen 1;go_wp2;refine bodyPost_ret (v := .tuple #[.agg #[.int .i64 0, .int .i64 0], .bool true]) (by simp [results, Tryz.results68, go_sem, r0, r1]) rfl ⟨by rw [HS.out]; rfl, ?_⟩;exact HFIN.out _ _ _ (by assumption)
     ·cases ib
      ·have HS : Hid (iSum S.T 5 ⟨ao, an⟩ ⟨bo, bn⟩ = none) := by
        show _ = _;unfold iSum;rw [HIA.out, HIB.out]
        dsimp only
        rw [if_neg (fun x => absurd x.1 (by decide)), if_neg (fun x => absurd x.1 (by decide)), if_neg (fun x => absurd x.1 (by decide)), if_neg (fun x => qe x.2), if_neg (fun x => by rcases x.2 with y | y <;> first | exact absurd y.1 (by decide) | (have := y.2; omega)), if_neg (fun x => absurd x.1 (by decide)), if_neg (fun x => absurd x.1 (by decide))]
       have ebF : ((ao : Int) == (bo : Int)) = false := by simp; omega
       have bbT : ((bo : Int) == 0) = true := by simp [qb]
       have zbF : (bn == 0) = false := by simp [qzb]
       clear HIA HIB qe qb qzb;have r0 := HZ2.out.cell (j := 0) rfl;have r1 := HZ2.out.cell (j := 1) rfl;have f0 := HZ2.out.frozen 0;have f1 := HZ2.out.frozen 1;go_wp2;refine bodyPost_ret (v := .tuple #[.agg #[.int .i64 0, .int .i64 0], .bool false]) (by simp [results, Tryz.results68, go_sem, r0, r1]) rfl ⟨by rw [HS.out]; rfl, ?_⟩;exact HFIN.out _ _ _ (by assumption)
      ·by_cases qa : ao = 0
       ·by_cases qza : an = 0
        ·have HS : Hid (iSum S.T 5 ⟨ao, an⟩ ⟨bo, bn⟩ = some ⟨0, 0⟩) := by
          show _ = _;unfold iSum;rw [HIA.out, HIB.out]
          dsimp only
          rw [if_neg (fun x => absurd x.1 (by decide)), if_neg (fun x => absurd x.1 (by decide)), if_neg (fun x => absurd x.1 (by decide)), if_neg (fun x => qe x.2), if_pos ⟨rfl, by first | exact .inl ⟨rfl, qb, qzb⟩ | exact .inr ⟨rfl, qa, qza⟩⟩]
         have ebF : ((ao : Int) == (bo : Int)) = false := by simp; omega
         have bbT : ((bo : Int) == 0) = true := by simp [qb]
         have zbF : (bn == 0) = false := by simp [qzb]
         have abT : ((ao : Int) == 0) = true := by simp [qa]
         have zaT : (an == 0) = true := by simp [qza]
         clear HIA HIB qe qb qzb qa qza;have r0 := HZ2.out.cell (j := 0) rfl;have r1 := HZ2.out.cell (j := 1) rfl;have f0 := HZ2.out.frozen 0;have f1 := HZ2.out.frozen 1;go_wp2;refine bodyPost_ret (v := .tuple #[.agg #[.int .i64 0, .int .i64 0], .bool true]) (by simp [results, Tryz.results68, go_sem, r0, r1]) rfl ⟨by rw [HS.out]; rfl, ?_⟩;exact HFIN.out _ _ _ (by assumption)
        ·have HS : Hid (iSum S.T 5 ⟨ao, an⟩ ⟨bo, bn⟩ = none) := by
          show _ = _;unfold iSum;rw [HIA.out, HIB.out]
          dsimp only
          rw [if_neg (fun x => absurd x.1 (by decide)), if_neg (fun x => absurd x.1 (by decide)), if_neg (fun x => absurd x.1 (by decide)), if_neg (fun x => qe x.2), if_neg (fun x => by rcases x.2 with y | y <;> first | exact absurd y.1 (by decide) | (have := y.2; omega)), if_neg (fun x => absurd x.1 (by decide)), if_neg (fun x => absurd x.1 (by decide))]
         have ebF : ((ao : Int) == (bo : Int)) = false := by simp; omega
         have bbT : ((bo : Int) == 0) = true := by simp [qb]
         have zbF : (bn == 0) = false := by simp [qzb]
         have abT : ((ao : Int) == 0) = true := by simp [qa]
         have zaF : (an == 0) = false := by simp [qza]
         clear HIA HIB qe qb qzb qa qza;have r0 := HZ2.out.cell (j := 0) rfl;have r1 := HZ2.out.cell (j := 1) rfl;have f0 := HZ2.out.frozen 0;have f1 := HZ2.out.frozen 1;go_wp2;refine bodyPost_ret (v := .tuple #[.agg #[.int .i64 0, .int .i64 0], .bool false]) (by simp [results, Tryz.results68, go_sem, r0, r1]) rfl ⟨by rw [HS.out]; rfl, ?_⟩;exact HFIN.out _ _ _ (by assumption)
       ·have HS : Hid (iSum S.T 5 ⟨ao, an⟩ ⟨bo, bn⟩ = none) := by
         show _ = _;unfold iSum;rw [HIA.out, HIB.out]
         dsimp only
         rw [if_neg (fun x => absurd x.1 (by decide)), if_neg (fun x => absurd x.1 (by decide)), if_neg (fun x => absurd x.1 (by decide)), if_neg (fun x => qe x.2), if_neg (fun x => by rcases x.2 with y | y <;> first | exact absurd y.1 (by decide) | (have := y.2; omega)), if_neg (fun x => absurd x.1 (by decide)), if_neg (fun x => absurd x.1 (by decide))]
        have ebF : ((ao : Int) == (bo : Int)) = false := by simp; omega
        have bbT : ((bo : Int) == 0) = true := by simp [qb]
        have zbF : (bn == 0) = false := by simp [qzb]
        have abF : ((ao : Int) == 0) = false := by simp; omega
        clear HIA HIB qe qb qzb qa;have r0 := HZ2.out.cell (j := 0) rfl;have r1 := HZ2.out.cell (j := 1) rfl;have f0 := HZ2.out.frozen 0;have f1 := HZ2.out.frozen 1;go_wp2;refine bodyPost_ret (v := .tuple #[.agg #[.int .i64 0, .int .i64 0], .bool false]) (by simp [results, Tryz.results68, go_sem, r0, r1]) rfl ⟨by rw [HS.out]; rfl, ?_⟩;exact HFIN.out _ _ _ (by assumption)
    ·cases ib
     ·have HS : Hid (iSum S.T 5 ⟨ao, an⟩ ⟨bo, bn⟩ = none) := by
       show _ = _;unfold iSum;rw [HIA.out, HIB.out]
       dsimp only
       rw [if_neg (fun x => absurd x.1 (by decide)), if_neg (fun x => absurd x.1 (by decide)), if_neg (fun x => absurd x.1 (by decide)), if_neg (fun x => qe x.2), if_neg (fun x => by rcases x.2 with y | y <;> first | exact absurd y.1 (by decide) | (have := y.2; omega)), if_neg (fun x => absurd x.1 (by decide)), if_neg (fun x => absurd x.1 (by decide))]
      have ebF : ((ao : Int) == (bo : Int)) = false := by simp; omega
      have bbF : ((bo : Int) == 0) = false := by simp; omega
      clear HIA HIB qe qb;have r0 := HZ2.out.cell (j := 0) rfl;have r1 := HZ2.out.cell (j := 1) rfl;have f0 := HZ2.out.frozen 0;have f1 := HZ2.out.frozen 1;go_wp2;refine bodyPost_ret (v := .tuple #[.agg #[.int .i64 0, .int .i64 0], .bool false]) (by simp [results, Tryz.results68, go_sem, r0, r1]) rfl ⟨by rw [HS.out]; rfl, ?_⟩;exact HFIN.out _ _ _ (by assumption)
     ·by_cases qa : ao = 0
      ·by_cases qza : an = 0
       ·have HS : Hid (iSum S.T 5 ⟨ao, an⟩ ⟨bo, bn⟩ = some ⟨0, 0⟩) := by
         show _ = _;unfold iSum;rw [HIA.out, HIB.out]
         dsimp only
         rw [if_neg (fun x => absurd x.1 (by decide)), if_neg (fun x => absurd x.1 (by decide)), if_neg (fun x => absurd x.1 (by decide)), if_neg (fun x => qe x.2), if_pos ⟨rfl, by first | exact .inl ⟨rfl, qb, qzb⟩ | exact .inr ⟨rfl, qa, qza⟩⟩]
        have ebF : ((ao : Int) == (bo : Int)) = false := by simp; omega
        have bbF : ((bo : Int) == 0) = false := by simp; omega
        have abT : ((ao : Int) == 0) = true := by simp [qa]
        have zaT : (an == 0) = true := by simp [qza]
        clear HIA HIB qe qb qa qza;have r0 := HZ2.out.cell (j := 0) rfl;have r1 := HZ2.out.cell (j := 1) rfl;have f0 := HZ2.out.frozen 0;have f1 := HZ2.out.frozen 1;go_wp2;refine bodyPost_ret (v := .tuple #[.agg #[.int .i64 0, .int .i64 0], .bool true]) (by simp [results, Tryz.results68, go_sem, r0, r1]) rfl ⟨by rw [HS.out]; rfl, ?_⟩;exact HFIN.out _ _ _ (by assumption)
       ·have HS : Hid (iSum S.T 5 ⟨ao, an⟩ ⟨bo, bn⟩ = none) := by
         show _ = _;unfold iSum;rw [HIA.out, HIB.out]
         dsimp only
         rw [if_neg (fun x => absurd x.1 (by decide)), if_neg (fun x => absurd x.1 (by decide)), if_neg (fun x => absurd x.1 (by decide)), if_neg (fun x => qe x.2), if_neg (fun x => by rcases x.2 with y | y <;> first | exact absurd y.1 (by decide) | (have := y.2; omega)), if_neg (fun x => absurd x.1 (by decide)), if_neg (fun x => absurd x.1 (by decide))]
        have ebF : ((ao : Int) == (bo : Int)) = false := by simp; omega
        have bbF : ((bo : Int) == 0) = false := by simp; omega
        have abT : ((ao : Int) == 0) = true := by simp [qa]
        have zaF : (an == 0) = false := by simp [qza]
        clear HIA HIB qe qb qa qza;have r0 := HZ2.out.cell (j := 0) rfl;have r1 := HZ2.out.cell (j := 1) rfl;have f0 := HZ2.out.frozen 0;have f1 := HZ2.out.frozen 1;go_wp2;refine bodyPost_ret (v := .tuple #[.agg #[.int .i64 0, .int .i64 0], .bool false]) (by simp [results, Tryz.results68, go_sem, r0, r1]) rfl ⟨by rw [HS.out]; rfl, ?_⟩;exact HFIN.out _ _ _ (by assumption)
      ·have HS : Hid (iSum S.T 5 ⟨ao, an⟩ ⟨bo, bn⟩ = none) := by
        show _ = _;unfold iSum;rw [HIA.out, HIB.out]
        dsimp only
        rw [if_neg (fun x => absurd x.1 (by decide)), if_neg (fun x => absurd x.1 (by decide)), if_neg (fun x => absurd x.1 (by decide)), if_neg (fun x => qe x.2), if_neg (fun x => by rcases x.2 with y | y <;> first | exact absurd y.1 (by decide) | (have := y.2; omega)), if_neg (fun x => absurd x.1 (by decide)), if_neg (fun x => absurd x.1 (by decide))]
       have ebF : ((ao : Int) == (bo : Int)) = false := by simp; omega
       have bbF : ((bo : Int) == 0) = false := by simp; omega
       have abF : ((ao : Int) == 0) = false := by simp; omega
       clear HIA HIB qe qb qa;have r0 := HZ2.out.cell (j := 0) rfl;have r1 := HZ2.out.cell (j := 1) rfl;have f0 := HZ2.out.frozen 0;have f1 := HZ2.out.frozen 1;go_wp2;refine bodyPost_ret (v := .tuple #[.agg #[.int .i64 0, .int .i64 0], .bool false]) (by simp [results, Tryz.results68, go_sem, r0, r1]) rfl ⟨by rw [HS.out]; rfl, ?_⟩;exact HFIN.out _ _ _ (by assumption)
end
end Go.Proofs.YtjikemhmnkckcabGreat
