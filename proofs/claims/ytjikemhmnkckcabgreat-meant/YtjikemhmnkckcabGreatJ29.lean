import Derived.Test.YtjikemhmnkckcabGreatJ28
namespace Go.Proofs.YtjikemhmnkckcabGreat
open Go.RowKit
def kfitG (cls : List (Int × Int)) (n i : Nat) (last : Int) : Int := last + 1 + kpick (wrap64 (wrap64 (Cf.gr cls i - last) - 1)) (8 - last - ((n : Int) - 1 - i))
def kfitS (cls : List (Int × Int)) (i : Nat) : Int := 1 + kpick (wrap64 (Cf.sl cls i - 1)) 16
def kfitTo (cls : List (Int × Int)) (n : Nat) : Nat → List (Int × Int) × Int
 | 0 => ([], 0)
 | i + 1 => ((kfitTo cls n i).1 ++ [(kfitG cls n i (kfitTo cls n i).2, kfitS cls i)], kfitG cls n i (kfitTo cls n i).2)
def kfitN (cls : List (Int × Int)) : Nat := if 4 < cls.length then 4 else cls.length
def kfit (cls : List (Int × Int)) : List (Int × Int) := if kfitN cls = 0 then [(1, 1)] else (kfitTo cls (kfitN cls) (kfitN cls)).1
theorem kfitTo_bd (cls : List (Int × Int)) (n : Nat) (hn : n ≤ 4) (i : Nat) (hi : i ≤ n) : 0 ≤ (kfitTo cls n i).2 ∧ (i : Int) ≤ (kfitTo cls n i).2 ∧ (kfitTo cls n i).2 ≤ 8 - ((n : Int) - i) ∧ (kfitTo cls n i).1.length = i := by
 induction i with
 | zero => simp [kfitTo]; omega
 | succ i ih =>
   obtain ⟨h1, h2, h3, h4⟩ := ih (by omega);have hb := kpick_bd (wrap64 (wrap64 (Cf.gr cls i - (kfitTo cls n i).2) - 1)) (8 - (kfitTo cls n i).2 - ((n : Int) - 1 - i)) (by omega);simp only [kfitTo];unfold kfitG;refine ⟨by omega, by omega, by omega, by simp [h4]⟩
theorem kfitTo_at (cls : List (Int × Int)) (n : Nat) (hn : n ≤ 4) (i : Nat) (hi : i ≤ n) (j : Nat) (hj : j < i) : Cf.gr (kfitTo cls n i).1 j = kfitG cls n j (kfitTo cls n j).2 ∧ Cf.sl (kfitTo cls n i).1 j = kfitS cls j := by
 induction i with
 | zero => omega
 | succ i ih =>
   have hl := (kfitTo_bd cls n hn i (by omega)).2.2.2
   have hg : ∀ d, (kfitTo cls n (i + 1)).1.getD j d = if j = i then (kfitG cls n i (kfitTo cls n i).2, kfitS cls i) else (kfitTo cls n i).1.getD j d := fun d => by
    simp only [kfitTo]
    by_cases e : j = i
    ·rw [if_pos e]; subst e
     rw [List.getD_eq_getElem?_getD, List.getElem?_append_right (by omega)]; simp [hl]
    ·rw [if_neg e, List.getD_eq_getElem?_getD, List.getElem?_append_left (by omega), ← List.getD_eq_getElem?_getD]
   by_cases e : j = i
   ·subst e;unfold Cf.gr Cf.sl;rw [hg, if_pos rfl];exact ⟨rfl, rfl⟩
   ·have := ih (by omega) (by omega);unfold Cf.gr Cf.sl at this ⊢;rw [hg, if_neg e];exact this
theorem kfit_valid (st rest : Int) (cls : List (Int × Int)) (s0 : 0 ≤ st) (s1 : st ≤ 16) (r0 : 0 ≤ rest) (r1 : rest ≤ 16) : Cf.Valid st rest (kfit cls) := by
 unfold kfit
 by_cases h : kfitN cls = 0
 ·rw [if_pos h]
  have e0 : ∀ i, i < ([((1 : Int), (1 : Int))] : List (Int × Int)).length → i = 0 := fun i hi => by
   change i < 1 at hi; omega
  refine ⟨s0, s1, r0, r1, by simp, by simp, fun i hi => ?_, fun i hi => ?_, fun i hi => ?_, fun i hi => ?_, fun i j hi hj => ?_⟩
  ·rw [e0 i hi]; simp [Cf.gr]
  ·rw [e0 i hi]; simp [Cf.gr]
  ·rw [e0 i hi]; simp [Cf.sl]
  ·rw [e0 i hi]; simp [Cf.sl]
  ·have := e0 i hi; omega
 ·rw [if_neg h];have hn : kfitN cls ≤ 4 := by unfold kfitN; split <;> omega
  generalize hN : kfitN cls = n at *;have hb := kfitTo_bd cls n hn;have hlen := (hb n (Nat.le_refl _)).2.2.2
  have key : ∀ i, i < n → Cf.gr (kfitTo cls n n).1 i = (kfitTo cls n (i + 1)).2 ∧ Cf.sl (kfitTo cls n n).1 i = kfitS cls i := fun i hi => by
   have := kfitTo_at cls n hn n (Nat.le_refl _) i hi;exact ⟨this.1, this.2⟩
  have hs : ∀ i, 1 ≤ kfitS cls i ∧ kfitS cls i ≤ 16 := fun i => by
   have := kpick_bd (wrap64 (Cf.sl cls i - 1)) 16 (by omega);unfold kfitS; omega
  have hmono : ∀ i, i < n → (kfitTo cls n i).2 < (kfitTo cls n (i + 1)).2 := fun i hi => by
   have h0 := hb i (by omega);have hk := kpick_bd (wrap64 (wrap64 (Cf.gr cls i - (kfitTo cls n i).2) - 1)) (8 - (kfitTo cls n i).2 - ((n : Int) - 1 - i)) (by omega);show _ < kfitG cls n i (kfitTo cls n i).2;unfold kfitG; omega
  have hup : ∀ i j, j < i → i < n → (kfitTo cls n (j + 1)).2 < (kfitTo cls n (i + 1)).2 := by
   intro i
   induction i with
   | zero => intro j hj _; omega
   | succ i ih =>
     intro j hj hi;have h1 := hmono (i + 1) hi
     by_cases e : j = i
     ·subst e; exact h1
     ·have := ih j (by omega) (by omega); omega
  refine ⟨s0, s1, r0, r1, by omega, by omega, fun i hi => ?_, fun i hi => ?_, fun i hi => ?_, fun i hi => ?_, fun i j hi hj => ?_⟩
  ·rw [hlen] at hi; rw [(key i hi).1]; have := hb (i + 1) (by omega); omega
  ·rw [hlen] at hi; rw [(key i hi).1]; have := hb (i + 1) (by omega); omega
  ·rw [hlen] at hi; rw [(key i hi).2]; exact (hs i).1
  ·rw [hlen] at hi; rw [(key i hi).2]; exact (hs i).2
  ·rw [hlen] at hi; rw [(key i hi).1, (key j (by omega)).1]; exact hup i j hj hi
end Go.Proofs.YtjikemhmnkckcabGreat
namespace Go.Proofs.YtjikemhmnkckcabGreat
open Go.RowKit
attribute [local go_sem ↓] Go.wp_at_zero Go.wp_at_succ
structure FitRes (wr : World) (rb : Nat) (v : Value) : Prop where
 blk : Blk wr rb 36 [.int .i64 0, .int .i64 0, .slice none 0 0]
 ne : ∀ g, v.ownBlock = some g → g ≠ rb
theorem FitRes.step {wr w2 : World} {rb ob gg n cap2 : Nat} {v x : Value} {cs : Array Value} {t : TypeId} (h : FitRes wr rb v) (ho : ob ≠ rb) (hgrow : (wr.alloc (.cells cs t)).grownBy w2 v.ownBlock) (hat : v.ownBlock = some gg ∨ gg = wr.heap.size + 1) :
 FitRes (w2.setCell ⟨ob, 2, none⟩ x) rb (.slice (some ⟨gg, 0, none⟩) n cap2) := by
 have hl := h.blk.lt;refine ⟨?_, ?_⟩
 ·have e1 := hgrow.block rb (by simp; omega) (fun e => h.ne _ e.symm rfl);have e2 : (wr.alloc (.cells cs t)).heap[rb]? = wr.heap[rb]? := Below.heap_alloc wr _ rb hl;have e3 := Below.heap_setCell w2 ⟨ob, 2, none⟩ x rb (fun e => ho e.symm);exact ((e3.trans e1).trans e2).trans h.blk
 ·intro g hg;simp [Value.ownBlock] at hg;subst hg
  rcases hat with h1 | h1
  ·exact h.ne _ h1
  ·omega
set_option maxRecDepth 100000 in
set_option maxHeartbeats 3200000 in
theorem kfit_small (st rest : Int) (a : Option Addr) (cap : Nat) (cls : List (Int × Int)) (w : World) (h : CRow w a cap cls) (h0 : 0 < cls.length) (h4 : cls.length ≤ 4) (b0 : -9223372036854775808 ≤ st) (b1 : st ≤ 9223372036854775807) (b2 : -9223372036854775808 ≤ rest) (b3 : rest ≤ 9223372036854775807) :
 Calls Tryz.prog 41 #[.agg #[.int .i64 st, .int .i64 rest, .slice a cls.length cap]] w fun e w' => ∃ v, e = .returned (.agg #[.int .i64 (kpick st 17), .int .i64 (kpick rest 17), v]) ∧
  w'.ownsRow 0 84 2 v (kfit cls).length ((kfit cls).flatMap clsCells) ∧ Below w.heap.size w w' ∧ ∀ g, v.ownBlock = some g → w.heap.size ≤ g := by
 have HC := hide2 h;obtain ⟨g, off, rfl, hgl, hcell⟩ := h.cells h0;obtain ⟨i0, hi0, hz0, hz1, hz2⟩ := info_parts info_cls;have hlen := h.len;have hcap := h.cap;unfold maxLen at hcap;have HCL := hide2 hcell;have h4' : ¬ (4 : Int) < (cls.length : Int) := by omega
 clear h hcell;go_enter Tryz.func41, Tryz.ntmps41
 go_wp2_with fail
 obtain ⟨wa, hwa⟩ : ∃ wa, wa = ((w.alloc (.cells #[.int .i64 st, .int .i64 rest, .slice (some ⟨g, off, none⟩) cls.length cap] 36)).alloc (.cells #[.int .i64 0, .int .i64 0, .slice none 0 0] 36)) := ⟨_, rfl⟩
 rw [← hwa];have c0 : wa.cell? ⟨w.heap.size, 0, none⟩ = some (.int .i64 st) := by rw [hwa, World.cell?_alloc_lt _ _ _ (by show w.heap.size < _; simp)]; exact World.cell?_alloc_new _ _ _ _
 have c1 : wa.cell? ⟨w.heap.size, 1, none⟩ = some (.int .i64 rest) := by rw [hwa, World.cell?_alloc_lt _ _ _ (by show w.heap.size < _; simp)]; exact World.cell?_alloc_new _ _ _ _
 have c2 : wa.cell? ⟨w.heap.size, 2, none⟩ = some (.slice (some ⟨g, off, none⟩) cls.length cap) := by rw [hwa, World.cell?_alloc_lt _ _ _ (by show w.heap.size < _; simp)]; exact World.cell?_alloc_new _ _ _ _
 have HBA : Hid (Below w.heap.size w wa) := by show Below _ _ _; rw [hwa]; exact ((Below.refl _ _).alloc (Nat.le_refl _) _).alloc (by simp) _
 have HFA : Hid (Blk wa (w.heap.size + 1) 36 [.int .i64 0, .int .i64 0, .slice none 0 0]) := by
  show Blk _ _ _ _;rw [hwa];have := Blk.alloc (w.alloc (.cells #[.int .i64 st, .int .i64 rest, .slice (some ⟨g, off, none⟩) cls.length cap] 36)) 36 [.int .i64 0, .int .i64 0, .slice none 0 0]
  rwa [World.size_alloc] at this
 have HSA : Hid (wa.heap.size = w.heap.size + 2) := by show _ = _; rw [hwa]; simp
 have hsa : w.heap.size < wa.heap.size := by rw [HSA.out]; omega
 clear hwa;refine (fun (key : Unit → ?T) => ?region) (fun _ => ?pf)
 case region =>
  go_region_held3 (fun w' => w'.cell? ⟨w.heap.size, 0, none⟩ = some (.int .i64 st) ∧ w'.cell? ⟨w.heap.size, 1, none⟩ = some (.int .i64 rest)) (go_keep)
   (first | (go_at_call 42; refine (kpick_any _ _ _ (by omega) (by omega) (by omega)).mono ?_; rintro e1 w1 ⟨rfl, rfl⟩))
  all_goals exact key ()
 generalize hst : kpick st 17 = st';generalize hrs : kpick rest 17 = rest';obtain ⟨wf, hwf⟩ : ∃ wf, wf = (wa.alloc (.cells #[.int .i64 st', .int .i64 rest', .slice none 0 0] 36)).drew := ⟨_, rfl⟩
 rw [← hwf];have e2 : wf.cell? ⟨w.heap.size, 2, none⟩ = some (.slice (some ⟨g, off, none⟩) cls.length cap) := by rw [hwf, World.cell?_drew, World.cell?_alloc_lt _ _ _ hsa]; exact c2
 have HR0 : Hid (NewRel w st' rest' (kfitTo cls cls.length cls.length).1 w.heap.size wa.heap.size (.slice (some ⟨g, off, none⟩) cls.length cap) 0 (.slice none 0 0) wf) := by
  show NewRel _ _ _ _ _ _ _ _ _ _;refine ⟨?_, Nat.le_refl _, e2, ?_, by omega, by omega, ?_, ?_, ?_⟩
  ·rw [hwf]; exact ((HBA.out.alloc HBA.out.size _).drew)
  ·rw [hwf, World.size_drew, World.size_alloc]; omega
  ·rw [hwf]; exact Blk.alloc _ _ _
  ·simpa using World.ownsRow_nil _ _ _ _
  ·intro g h; cases h
 have HF0 : Hid (FitRes wf (w.heap.size + 1) (.slice none 0 0)) := by
  show FitRes _ _ _;refine ⟨?_, fun g h => by cases h⟩;rw [hwf];exact (Below.heap_alloc wa _ _ (by rw [HSA.out]; omega) : _).trans HFA.out
 clear hwf c0 c1 c2;have HNE : Hid (∃ N : Nat, N = cls.length) := ⟨_, rfl⟩
 go_wp2_with fail
 go_loopw [5, 6] (fun x i wr => ∃ (m : Nat) (v : Value), m ≤ cls.length ∧ i = .int .i64 (m : Int) ∧ x = .int .i64 (kfitTo cls cls.length m).2 ∧ NewRel w st' rest' (kfitTo cls cls.length cls.length).1 w.heap.size wa.heap.size (.slice (some ⟨g, off, none⟩) cls.length cap) m v wr ∧ FitRes wr (w.heap.size + 1) v) (fun _ i _ => cls.length - (intOf i).toNat)
 case atStart => exact ⟨0, _, by omega, rfl, rfl, HR0.out, HF0.out⟩
 case round =>
  obtain ⟨m, v, hm, rfl, rfl, hr, hfr⟩ := hrel;have HFR := hide2 hfr;have r2 := hr.pbc;have HRR := hide2 hr
  by_cases hlt : m < cls.length
  ·obtain ⟨d0, d1⟩ := HCL.out m hlt;have d0' := (hr.below.cell (p := ⟨g, off + m * 2, none⟩) hgl).trans d0;have d1' := (hr.below.cell (p := ⟨g, off + m * 2 + 1, none⟩) hgl).trans d1;have o2 := hr.obk.cell (j := 2) rfl;have of2 := hr.obk.frozen 2;have obl := hr.obk.lt;have pbl := hr.pbl;have hsz := hr.below.size;have x0 : (0 : Int) ≤ (m : Int) := by omega
   have x1 : (m : Int) < (cls.length : Int) := by omega
   have HTO := hide2 (kfitTo_at cls cls.length h4 cls.length (Nat.le_refl _) m hlt);have hbd := kfitTo_bd cls cls.length h4 m (by omega);obtain ⟨l0, l1, l2, _⟩ := hbd;have HGD : Hid (kfitG cls cls.length m (kfitTo cls cls.length m).2 = (kfitTo cls cls.length m).2 + 1 + kpick (wrap64 (wrap64 (Cf.gr cls m - (kfitTo cls cls.length m).2) - 1)) (8 - (kfitTo cls cls.length m).2 - ((cls.length : Int) - 1 - m))) := rfl;have HSD : Hid (kfitS cls m = 1 + kpick (wrap64 (Cf.sl cls m - 1)) 16) := rfl;have HNX : Hid ((kfitTo cls cls.length (m + 1)).2 = kfitG cls cls.length m (kfitTo cls cls.length m).2) := rfl;have hrow := hide2 hr.row;have vlo := hide2 hr.vlo;generalize (kfitTo cls cls.length m).2 = last at *;generalize Cf.gr cls m = x at *;generalize Cf.sl cls m = y at *;clear d0 d1 hr hfr e2
   go_wp2_with fail
   have hz1' := wrap64_bd (wrap64 (x - last) - 1);have hz2' := wrap64_bd (y - 1);refine (kpick_any _ _ _ (by omega) (by omega) (by omega)).mono ?_;rintro e1 w1 ⟨rfl, rfl⟩;have hk1 := kpick_bd (wrap64 (wrap64 (x - last) - 1)) (8 - last - ((cls.length : Int) - 1 - m)) (by omega);generalize kpick (wrap64 (wrap64 (x - last) - 1)) (8 - last - ((cls.length : Int) - 1 - m)) = kg at *;have hk2 := kpick_bd (wrap64 (y - 1)) 16 (by omega)
   go_wp2_with fail
   refine (kpick_any _ _ _ (by omega) (by omega) (by omega)).mono ?_;rintro e1 w1 ⟨rfl, rfl⟩;generalize kpick (wrap64 (y - 1)) 16 = ks at *;generalize hgx : last + 1 + kg = gx at *;have HX : Hid (Cf.gr (kfitTo cls cls.length cls.length).1 m = gx ∧ Cf.sl (kfitTo cls cls.length cls.length).1 m = 1 + ks) := ⟨by rw [HTO.out.1, HGD.out], by rw [HTO.out.2, HSD.out]⟩
   have HNX2 : Hid ((kfitTo cls cls.length (m + 1)).2 = gx) := by show _ = _; rw [HNX.out, HGD.out]
   clear hgx HGD HSD HNX HTO d0' d1' hz1' hz2' hk1
   go_wp2_with (at_builtin; refine wpList_append_lies _ rfl _ _ _ rfl 0 84 i0 _ 2 16 Tryz.underlying34 hi0 hz0 hz1 hz2 rfl (by omega) v m (((kfitTo cls cls.length cls.length).1.take m).flatMap clsCells) rfl (hrow.out.alloc _) ⟨wr.heap.size, 0, none⟩ 1 1 [.int .i64 gx, .int .i64 (1 + ks)] rfl rfl (World.news_of_block (cs := #[.int .i64 gx, .int .i64 (1 + ks)]) (t := 84) (fr := (0, 0)) (heap_alloc_new wr _)) (by simp [Value.oneCell']) (by omega) (by simp [maxLen]; omega) (by omega) (by simp) (wr.heap.size + 1) (by simp) ?_; intro gg cap2 w2 hown1 hgrow hat hlt2; have o2' : w2.cell? ⟨wa.heap.size, 2, none⟩ = some v := (by rw [hgrow.cell_far _ (by simp; omega) (fun e => (vlo.out _ e.symm).2.2 rfl), World.cell?_alloc_lt _ _ _ obl]; exact o2); have of2' : w2.frozen? ⟨wa.heap.size, 2, none⟩ = false := (by rw [hgrow.frozen_far _ (by simp; omega) (fun e => (vlo.out _ e.symm).2.2 rfl), World.frozen?_alloc_old _ _ _ (by show wa.heap.size ≠ _; omega)]; exact of2))
   go_roundw
   case rel => exact ⟨m + 1, _, by omega, by go_num, by rw [HNX2.out], HRR.out.step (by have := (kfitTo_bd cls cls.length h4 cls.length (Nat.le_refl _)).2.2.2; omega) HX.out hown1 (show (World.drew _).grownBy _ _ from ⟨hgrow.os, hgrow.tape, hgrow.output, hgrow.size, hgrow.block⟩) hat, HFR.out.step (by rw [HSA.out]; omega) hgrow hat⟩
   case measure => simp [intOf]; omega
  ·obtain rfl : m = cls.length := by omega
   obtain ⟨a2, cap2, rfl, -⟩ := row_open HRR.out.row;have o0 := hr.obk.cell (j := 0) rfl;have o1 := hr.obk.cell (j := 1) rfl;have o2 := hr.obk.cell (j := 2) rfl;have hnz : ¬ ((cls.length : Int) = 0) := by omega
   have p0 := hfr.blk.cell (j := 0) rfl;have p1 := hfr.blk.cell (j := 1) rfl;have p2 := hfr.blk.cell (j := 2) rfl;have f0 := hfr.blk.frozen 0;have f1 := hfr.blk.frozen 1;have f2 := hfr.blk.frozen 2;clear hr hfr e2;go_wp2;have hN : kfitN cls = cls.length := by unfold kfitN; rw [if_neg (by omega)]
   have hF : kfit cls = (kfitTo cls cls.length cls.length).1 := by unfold kfit; rw [hN, if_neg (by omega)]
   have hl := (kfitTo_bd cls cls.length h4 cls.length (Nat.le_refl _)).2.2.2;have hrw := HRR.out.row;have ht : (kfitTo cls cls.length cls.length).1.take cls.length = (kfitTo cls cls.length cls.length).1 := List.take_of_length_le (by omega);rw [ht] at hrw;have hge : w.heap.size ≤ w.heap.size + 1 := Nat.le_succ _;refine bodyPost_ret (v := .agg #[.int .i64 st', .int .i64 rest', .slice a2 cls.length cap2]) (by simp [results, Tryz.results41, go_sem, p0, p1, p2]) rfl ⟨_, by rw [hst, hrs], ?_, ((HRR.out.below.setCell (p := ⟨w.heap.size + 1, 0, none⟩) hge _).setCell (p := ⟨w.heap.size + 1, 1, none⟩) hge _).setCell (p := ⟨w.heap.size + 1, 2, none⟩) hge _, fun g hg => (HRR.out.vlo g hg).1⟩;rw [hF, hl];refine row_kept hrw (fun g hg => ?_);have hne := HFR.out.ne g hg;rw [Below.heap_setCell _ _ _ g (by show g ≠ w.heap.size + 1; exact hne), Below.heap_setCell _ _ _ g (by show g ≠ w.heap.size + 1; exact hne), Below.heap_setCell _ _ _ g (by show g ≠ w.heap.size + 1; exact hne)]
set_option maxRecDepth 100000 in
set_option maxHeartbeats 3200000 in
theorem kfit_big (st rest : Int) (a : Option Addr) (cap : Nat) (cls : List (Int × Int)) (w : World) (h : CRow w a cap cls) (h5 : 4 < cls.length) (b0 : -9223372036854775808 ≤ st) (b1 : st ≤ 9223372036854775807) (b2 : -9223372036854775808 ≤ rest) (b3 : rest ≤ 9223372036854775807) :
 Calls Tryz.prog 41 #[.agg #[.int .i64 st, .int .i64 rest, .slice a cls.length cap]] w fun e w' => ∃ v, e = .returned (.agg #[.int .i64 (kpick st 17), .int .i64 (kpick rest 17), v]) ∧
  w'.ownsRow 0 84 2 v (kfit cls).length ((kfit cls).flatMap clsCells) ∧ Below w.heap.size w w' ∧ ∀ g, v.ownBlock = some g → w.heap.size ≤ g := by
 have HC := hide2 h;obtain ⟨g, off, rfl, hgl, hcell⟩ := h.cells (by omega);obtain ⟨i0, hi0, hz0, hz1, hz2⟩ := info_parts info_cls;have hlen := h.len;have hcap := h.cap;unfold maxLen at hcap;have HCL := hide2 hcell;have h4' : (4 : Int) < (cls.length : Int) := by omega
 have h4 : 4 ≤ 4 := Nat.le_refl _;have h0 : 0 < cls.length := by omega
 clear h hcell;go_enter Tryz.func41, Tryz.ntmps41
 go_wp2_with fail
 obtain ⟨wa, hwa⟩ : ∃ wa, wa = ((w.alloc (.cells #[.int .i64 st, .int .i64 rest, .slice (some ⟨g, off, none⟩) cls.length cap] 36)).alloc (.cells #[.int .i64 0, .int .i64 0, .slice none 0 0] 36)) := ⟨_, rfl⟩
 rw [← hwa];have c0 : wa.cell? ⟨w.heap.size, 0, none⟩ = some (.int .i64 st) := by rw [hwa, World.cell?_alloc_lt _ _ _ (by show w.heap.size < _; simp)]; exact World.cell?_alloc_new _ _ _ _
 have c1 : wa.cell? ⟨w.heap.size, 1, none⟩ = some (.int .i64 rest) := by rw [hwa, World.cell?_alloc_lt _ _ _ (by show w.heap.size < _; simp)]; exact World.cell?_alloc_new _ _ _ _
 have c2 : wa.cell? ⟨w.heap.size, 2, none⟩ = some (.slice (some ⟨g, off, none⟩) cls.length cap) := by rw [hwa, World.cell?_alloc_lt _ _ _ (by show w.heap.size < _; simp)]; exact World.cell?_alloc_new _ _ _ _
 have HBA : Hid (Below w.heap.size w wa) := by show Below _ _ _; rw [hwa]; exact ((Below.refl _ _).alloc (Nat.le_refl _) _).alloc (by simp) _
 have HFA : Hid (Blk wa (w.heap.size + 1) 36 [.int .i64 0, .int .i64 0, .slice none 0 0]) := by
  show Blk _ _ _ _;rw [hwa];have := Blk.alloc (w.alloc (.cells #[.int .i64 st, .int .i64 rest, .slice (some ⟨g, off, none⟩) cls.length cap] 36)) 36 [.int .i64 0, .int .i64 0, .slice none 0 0]
  rwa [World.size_alloc] at this
 have HSA : Hid (wa.heap.size = w.heap.size + 2) := by show _ = _; rw [hwa]; simp
 have hsa : w.heap.size < wa.heap.size := by rw [HSA.out]; omega
 clear hwa;refine (fun (key : Unit → ?T) => ?region) (fun _ => ?pf)
 case region =>
  go_region_held3 (fun w' => w'.cell? ⟨w.heap.size, 0, none⟩ = some (.int .i64 st) ∧ w'.cell? ⟨w.heap.size, 1, none⟩ = some (.int .i64 rest)) (go_keep)
   (first | (go_at_call 42; refine (kpick_any _ _ _ (by omega) (by omega) (by omega)).mono ?_; rintro e1 w1 ⟨rfl, rfl⟩))
  all_goals exact key ()
 generalize hst : kpick st 17 = st';generalize hrs : kpick rest 17 = rest';obtain ⟨wf, hwf⟩ : ∃ wf, wf = (wa.alloc (.cells #[.int .i64 st', .int .i64 rest', .slice none 0 0] 36)).drew := ⟨_, rfl⟩
 rw [← hwf];have e2 : wf.cell? ⟨w.heap.size, 2, none⟩ = some (.slice (some ⟨g, off, none⟩) cls.length cap) := by rw [hwf, World.cell?_drew, World.cell?_alloc_lt _ _ _ hsa]; exact c2
 have HR0 : Hid (NewRel w st' rest' (kfitTo cls 4 4).1 w.heap.size wa.heap.size (.slice (some ⟨g, off, none⟩) cls.length cap) 0 (.slice none 0 0) wf) := by
  show NewRel _ _ _ _ _ _ _ _ _ _;refine ⟨?_, Nat.le_refl _, e2, ?_, by omega, by omega, ?_, ?_, ?_⟩
  ·rw [hwf]; exact ((HBA.out.alloc HBA.out.size _).drew)
  ·rw [hwf, World.size_drew, World.size_alloc]; omega
  ·rw [hwf]; exact Blk.alloc _ _ _
  ·simpa using World.ownsRow_nil _ _ _ _
  ·intro g h; cases h
 have HF0 : Hid (FitRes wf (w.heap.size + 1) (.slice none 0 0)) := by
  show FitRes _ _ _;refine ⟨?_, fun g h => by cases h⟩;rw [hwf];exact (Below.heap_alloc wa _ _ (by rw [HSA.out]; omega) : _).trans HFA.out
 clear hwf c0 c1 c2
 go_wp2_with fail
 go_loopw [5, 6] (fun x i wr => ∃ (m : Nat) (v : Value), m ≤ 4 ∧ i = .int .i64 (m : Int) ∧ x = .int .i64 (kfitTo cls 4 m).2 ∧ NewRel w st' rest' (kfitTo cls 4 4).1 w.heap.size wa.heap.size (.slice (some ⟨g, off, none⟩) cls.length cap) m v wr ∧ FitRes wr (w.heap.size + 1) v) (fun _ i _ => 4 - (intOf i).toNat)
 case atStart => exact ⟨0, _, by omega, rfl, rfl, HR0.out, HF0.out⟩
 case round =>
  obtain ⟨m, v, hm, rfl, rfl, hr, hfr⟩ := hrel;have HFR := hide2 hfr;have r2 := hr.pbc;have HRR := hide2 hr
  by_cases hlt : m < 4
  ·obtain ⟨d0, d1⟩ := HCL.out m (by omega);have d0' := (hr.below.cell (p := ⟨g, off + m * 2, none⟩) hgl).trans d0;have d1' := (hr.below.cell (p := ⟨g, off + m * 2 + 1, none⟩) hgl).trans d1;have o2 := hr.obk.cell (j := 2) rfl;have of2 := hr.obk.frozen 2;have obl := hr.obk.lt;have pbl := hr.pbl;have hsz := hr.below.size;have x0 : (0 : Int) ≤ (m : Int) := by omega
   have x1 : (m : Int) < (cls.length : Int) := by omega
   have x2 : (m : Int) < 4 := by omega
   have HTO := hide2 (kfitTo_at cls 4 h4 4 (Nat.le_refl _) m hlt);have hbd := kfitTo_bd cls 4 h4 m (by omega);obtain ⟨l0, l1, l2, _⟩ := hbd;have HGD : Hid (kfitG cls 4 m (kfitTo cls 4 m).2 = (kfitTo cls 4 m).2 + 1 + kpick (wrap64 (wrap64 (Cf.gr cls m - (kfitTo cls 4 m).2) - 1)) (8 - (kfitTo cls 4 m).2 - (3 - m))) := rfl;have HSD : Hid (kfitS cls m = 1 + kpick (wrap64 (Cf.sl cls m - 1)) 16) := rfl;have HNX : Hid ((kfitTo cls 4 (m + 1)).2 = kfitG cls 4 m (kfitTo cls 4 m).2) := rfl;have hrow := hide2 hr.row;have vlo := hide2 hr.vlo;generalize (kfitTo cls 4 m).2 = last at *;generalize Cf.gr cls m = x at *;generalize Cf.sl cls m = y at *;clear d0 d1 hr hfr e2
   go_wp2_with fail
   have hz1' := wrap64_bd (wrap64 (x - last) - 1);have hz2' := wrap64_bd (y - 1);refine (kpick_any _ _ _ (by omega) (by omega) (by omega)).mono ?_;rintro e1 w1 ⟨rfl, rfl⟩;have hk1 := kpick_bd (wrap64 (wrap64 (x - last) - 1)) (8 - last - (3 - m)) (by omega);generalize kpick (wrap64 (wrap64 (x - last) - 1)) (8 - last - (3 - m)) = kg at *;have hk2 := kpick_bd (wrap64 (y - 1)) 16 (by omega)
   go_wp2_with fail
   refine (kpick_any _ _ _ (by omega) (by omega) (by omega)).mono ?_;rintro e1 w1 ⟨rfl, rfl⟩;generalize kpick (wrap64 (y - 1)) 16 = ks at *;generalize hgx : last + 1 + kg = gx at *;have HX : Hid (Cf.gr (kfitTo cls 4 4).1 m = gx ∧ Cf.sl (kfitTo cls 4 4).1 m = 1 + ks) := ⟨by rw [HTO.out.1, HGD.out], by rw [HTO.out.2, HSD.out]⟩
   have HNX2 : Hid ((kfitTo cls 4 (m + 1)).2 = gx) := by show _ = _; rw [HNX.out, HGD.out]
   clear hgx HGD HSD HNX HTO d0' d1' hz1' hz2' hk1
   go_wp2_with (at_builtin; refine wpList_append_lies _ rfl _ _ _ rfl 0 84 i0 _ 2 16 Tryz.underlying34 hi0 hz0 hz1 hz2 rfl (by omega) v m (((kfitTo cls 4 4).1.take m).flatMap clsCells) rfl (hrow.out.alloc _) ⟨wr.heap.size, 0, none⟩ 1 1 [.int .i64 gx, .int .i64 (1 + ks)] rfl rfl (World.news_of_block (cs := #[.int .i64 gx, .int .i64 (1 + ks)]) (t := 84) (fr := (0, 0)) (heap_alloc_new wr _)) (by simp [Value.oneCell']) (by omega) (by simp [maxLen]; omega) (by omega) (by simp) (wr.heap.size + 1) (by simp) ?_; intro gg cap2 w2 hown1 hgrow hat hlt2; have o2' : w2.cell? ⟨wa.heap.size, 2, none⟩ = some v := (by rw [hgrow.cell_far _ (by simp; omega) (fun e => (vlo.out _ e.symm).2.2 rfl), World.cell?_alloc_lt _ _ _ obl]; exact o2); have of2' : w2.frozen? ⟨wa.heap.size, 2, none⟩ = false := (by rw [hgrow.frozen_far _ (by simp; omega) (fun e => (vlo.out _ e.symm).2.2 rfl), World.frozen?_alloc_old _ _ _ (by show wa.heap.size ≠ _; omega)]; exact of2))
   go_roundw
   case rel => exact ⟨m + 1, _, by omega, by go_num, by rw [HNX2.out], HRR.out.step (by have := (kfitTo_bd cls 4 h4 4 (Nat.le_refl _)).2.2.2; omega) HX.out hown1 (show (World.drew _).grownBy _ _ from ⟨hgrow.os, hgrow.tape, hgrow.output, hgrow.size, hgrow.block⟩) hat, HFR.out.step (by rw [HSA.out]; omega) hgrow hat⟩
   case measure => simp [intOf]; omega
  ·obtain rfl : m = 4 := by omega
   obtain ⟨a2, cap2, rfl, -⟩ := row_open HRR.out.row;have o0 := hr.obk.cell (j := 0) rfl;have o1 := hr.obk.cell (j := 1) rfl;have o2 := hr.obk.cell (j := 2) rfl;have p0 := hfr.blk.cell (j := 0) rfl;have p1 := hfr.blk.cell (j := 1) rfl;have p2 := hfr.blk.cell (j := 2) rfl;have f0 := hfr.blk.frozen 0;have f1 := hfr.blk.frozen 1;have f2 := hfr.blk.frozen 2;clear hr hfr e2;go_wp2;have hN : kfitN cls = 4 := by unfold kfitN; rw [if_pos (by omega)]
   have hF : kfit cls = (kfitTo cls 4 4).1 := by unfold kfit; rw [hN, if_neg (by omega)]
   have hl := (kfitTo_bd cls 4 h4 4 (Nat.le_refl _)).2.2.2;have hrw := HRR.out.row;have ht : (kfitTo cls 4 4).1.take 4 = (kfitTo cls 4 4).1 := List.take_of_length_le (by omega);rw [ht] at hrw;have hge : w.heap.size ≤ w.heap.size + 1 := Nat.le_succ _;refine bodyPost_ret (v := .agg #[.int .i64 st', .int .i64 rest', .slice a2 4 cap2]) (by simp [results, Tryz.results41, go_sem, p0, p1, p2]) rfl ⟨_, by rw [hst, hrs], ?_, ((HRR.out.below.setCell (p := ⟨w.heap.size + 1, 0, none⟩) hge _).setCell (p := ⟨w.heap.size + 1, 1, none⟩) hge _).setCell (p := ⟨w.heap.size + 1, 2, none⟩) hge _, fun g hg => (HRR.out.vlo g hg).1⟩;rw [hF, hl];refine row_kept hrw (fun g hg => ?_);have hne := HFR.out.ne g hg;rw [Below.heap_setCell _ _ _ g (by show g ≠ w.heap.size + 1; exact hne), Below.heap_setCell _ _ _ g (by show g ≠ w.heap.size + 1; exact hne), Below.heap_setCell _ _ _ g (by show g ≠ w.heap.size + 1; exact hne)]
set_option maxRecDepth 100000 in
set_option maxHeartbeats 3200000 in
theorem kfit_none (st rest : Int) (a : Option Addr) (cap : Nat) (w : World) (b0 : -9223372036854775808 ≤ st) (b1 : st ≤ 9223372036854775807) (b2 : -9223372036854775808 ≤ rest) (b3 : rest ≤ 9223372036854775807) :
 Calls Tryz.prog 41 #[.agg #[.int .i64 st, .int .i64 rest, .slice a 0 cap]] w fun e w' => ∃ v, e = .returned (.agg #[.int .i64 (kpick st 17), .int .i64 (kpick rest 17), v]) ∧
  w'.ownsRow 0 84 2 v 1 [.int .i64 1, .int .i64 1] ∧ Below w.heap.size w w' ∧ ∀ g, v.ownBlock = some g → w.heap.size ≤ g := by
 go_enter Tryz.func41, Tryz.ntmps41
 go_wp2_with fail
 obtain ⟨wa, hwa⟩ : ∃ wa, wa = ((w.alloc (.cells #[.int .i64 st, .int .i64 rest, .slice a 0 cap] 36)).alloc (.cells #[.int .i64 0, .int .i64 0, .slice none 0 0] 36)) := ⟨_, rfl⟩
 rw [← hwa];have c0 : wa.cell? ⟨w.heap.size, 0, none⟩ = some (.int .i64 st) := by rw [hwa, World.cell?_alloc_lt _ _ _ (by show w.heap.size < _; simp)]; exact World.cell?_alloc_new _ _ _ _
 have c1 : wa.cell? ⟨w.heap.size, 1, none⟩ = some (.int .i64 rest) := by rw [hwa, World.cell?_alloc_lt _ _ _ (by show w.heap.size < _; simp)]; exact World.cell?_alloc_new _ _ _ _
 have c2 : wa.cell? ⟨w.heap.size, 2, none⟩ = some (.slice a 0 cap) := by rw [hwa, World.cell?_alloc_lt _ _ _ (by show w.heap.size < _; simp)]; exact World.cell?_alloc_new _ _ _ _
 have HBA : Hid (Below w.heap.size w wa) := by show Below _ _ _; rw [hwa]; exact ((Below.refl _ _).alloc (Nat.le_refl _) _).alloc (by simp) _
 have HFA : Hid (Blk wa (w.heap.size + 1) 36 [.int .i64 0, .int .i64 0, .slice none 0 0]) := by
  show Blk _ _ _ _;rw [hwa];have := Blk.alloc (w.alloc (.cells #[.int .i64 st, .int .i64 rest, .slice a 0 cap] 36)) 36 [.int .i64 0, .int .i64 0, .slice none 0 0]
  rwa [World.size_alloc] at this
 have HSA : Hid (wa.heap.size = w.heap.size + 2) := by show _ = _; rw [hwa]; simp
 have hsa : w.heap.size < wa.heap.size := by rw [HSA.out]; omega
 clear hwa;refine (fun (key : Unit → ?T) => ?region) (fun _ => ?pf)
 case region =>
  go_region_held3 (fun w' => w'.cell? ⟨w.heap.size, 0, none⟩ = some (.int .i64 st) ∧ w'.cell? ⟨w.heap.size, 1, none⟩ = some (.int .i64 rest)) (go_keep)
   (first | (go_at_call 42; refine (kpick_any _ _ _ (by omega) (by omega) (by omega)).mono ?_; rintro e1 w1 ⟨rfl, rfl⟩))
  all_goals exact key ()
 generalize hst : kpick st 17 = st';generalize hrs : kpick rest 17 = rest';obtain ⟨wf, hwf⟩ : ∃ wf, wf = (wa.alloc (.cells #[.int .i64 st', .int .i64 rest', .slice none 0 0] 36)).drew := ⟨_, rfl⟩
 rw [← hwf];have e2 : wf.cell? ⟨w.heap.size, 2, none⟩ = some (.slice a 0 cap) := by rw [hwf, World.cell?_drew, World.cell?_alloc_lt _ _ _ hsa]; exact c2
 have HBF : Hid (Below w.heap.size w wf) := by show Below _ _ _; rw [hwf]; exact (HBA.out.alloc HBA.out.size _).drew
 have HFF : Hid (Blk wf wa.heap.size 36 [.int .i64 st', .int .i64 rest', .slice none 0 0]) := by show Blk _ _ _ _; rw [hwf]; exact Blk.alloc _ _ _
 have HFR : Hid (Blk wf (w.heap.size + 1) 36 [.int .i64 0, .int .i64 0, .slice none 0 0]) := by
  show Blk _ _ _ _;rw [hwf];exact (Below.heap_alloc wa _ _ (by rw [HSA.out]; omega) : _).trans HFA.out
 have hsf : wf.heap.size = wa.heap.size + 1 := by rw [hwf, World.size_drew, World.size_alloc]
 clear hwf c0 c1 c2
 go_wp2_with fail
 go_loopw [6] (fun i wr => i = .int .i64 0 ∧ wr = wf) (fun _ _ => 0)
 case atStart => exact ⟨rfl, rfl⟩
 case round =>
  obtain ⟨rfl, rfl⟩ := hrel;have HFF2 : Hid (Blk (wr.alloc (.cells #[.int .i64 1, .int .i64 1] 84)) wa.heap.size 36 [.int .i64 st', .int .i64 rest', .slice none 0 0]) := (Below.heap_alloc wr _ _ (by omega) : _).trans HFF.out;have HFR2 : Hid (Blk (wr.alloc (.cells #[.int .i64 1, .int .i64 1] 84)) (w.heap.size + 1) 36 [.int .i64 0, .int .i64 0, .slice none 0 0]) := (Below.heap_alloc wr _ _ HFR.out.lt : _).trans HFR.out;have o0 := HFF2.out.cell (j := 0) rfl;have o1 := HFF2.out.cell (j := 1) rfl;have o2 := HFF2.out.cell (j := 2) rfl;have of2 := HFF2.out.frozen 2;have p0 := HFR2.out.cell (j := 0) rfl;have p1 := HFR2.out.cell (j := 1) rfl;have p2 := HFR2.out.cell (j := 2) rfl;have f0 := HFR2.out.frozen 0;have f1 := HFR2.out.frozen 1;have f2 := HFR2.out.frozen 2;have HSF := hide2 hsf;have hne : w.heap.size + 1 ≠ wa.heap.size := by rw [HSA.out]; omega
  have hne2 : wa.heap.size ≠ w.heap.size + 1 := fun e => hne e.symm
  clear e2 hsf;go_wp2;have hge : w.heap.size ≤ w.heap.size + 1 := Nat.le_succ _;have hsw := HSF.out;have hsa2 := HSA.out;refine bodyPost_ret (v := .agg #[.int .i64 st', .int .i64 rest', .slice (some ⟨wr.heap.size, 0, none⟩) 1 1]) (by simp [results, Tryz.results41, go_sem, p0, p1, p2]) rfl ⟨_, by rw [hst, hrs], ?_, ((((HBF.out.alloc HBF.out.size _).setCell (p := ⟨wa.heap.size, 2, none⟩) (by show _ ≤ wa.heap.size; omega) _).setCell (p := ⟨w.heap.size + 1, 0, none⟩) hge _).setCell (p := ⟨w.heap.size + 1, 1, none⟩) hge _).setCell (p := ⟨w.heap.size + 1, 2, none⟩) hge _, fun g hg => ?_⟩
  ·have hrw : (wr.alloc (.cells #[.int .i64 1, .int .i64 1] 84)).ownsRow 0 84 2 (.slice (some ⟨wr.heap.size, 0, none⟩) 1 1) 1 [.int .i64 1, .int .i64 1] :=
    ⟨rfl, .inr ⟨wr.heap.size, 1, _, rfl, Nat.zero_le _, heap_alloc_new wr _, Nat.le_refl _, by unfold maxLen; omega, rfl, rfl⟩⟩
   refine row_kept hrw (fun g hg => ?_);obtain rfl : wr.heap.size = g := by simpa [Value.ownBlock] using hg
   rw [Below.heap_setCell _ _ _ _ (by show wr.heap.size ≠ w.heap.size + 1; omega), Below.heap_setCell _ _ _ _ (by show wr.heap.size ≠ w.heap.size + 1; omega), Below.heap_setCell _ _ _ _ (by show wr.heap.size ≠ w.heap.size + 1; omega), Below.heap_setCell _ _ _ _ (by show wr.heap.size ≠ wa.heap.size; omega)]
  ·obtain rfl : wr.heap.size = g := by simpa [Value.ownBlock] using hg
   omega
theorem kfit_any (st rest : Int) (a : Option Addr) (cap : Nat) (cls : List (Int × Int)) (w : World) (h : CRow w a cap cls) (b0 : -9223372036854775808 ≤ st) (b1 : st ≤ 9223372036854775807) (b2 : -9223372036854775808 ≤ rest) (b3 : rest ≤ 9223372036854775807) :
 Calls Tryz.prog 41 #[.agg #[.int .i64 st, .int .i64 rest, .slice a cls.length cap]] w fun e w' => ∃ v, e = .returned (.agg #[.int .i64 (kpick st 17), .int .i64 (kpick rest 17), v]) ∧
  w'.ownsRow 0 84 2 v (kfit cls).length ((kfit cls).flatMap clsCells) ∧ Below w.heap.size w w' ∧ ∀ g, v.ownBlock = some g → w.heap.size ≤ g := by
 by_cases h0 : cls.length = 0
 ·obtain rfl : cls = [] := List.length_eq_zero_iff.1 h0;exact kfit_none st rest a cap w b0 b1 b2 b3
 ·by_cases h4 : 4 < cls.length
  ·exact kfit_big st rest a cap cls w h h4 b0 b1 b2 b3
  ·exact kfit_small st rest a cap cls w h (by omega) (by omega) b0 b1 b2 b3
theorem KOk.start {st rest : Int} {cls : List (Int × Int)} {cs : List GCls} (hv : Cf.Valid st rest cls) (h : ClsOk st cls cls.length cs) :
 KOk ⟨st, rest, cls, [], [], 0⟩ ⟨st, rest, cs, List.replicate (16 * Cf.gran st cls cls.length).toNat 0⟩ ⟨st, rest, cls, [], []⟩ := by
 have hg := Cf.gran_bd hv cls.length (Nat.le_refl _)
 have hz : ∀ i, (List.replicate (16 * Cf.gran st cls cls.length).toNat (0 : Int)).getD i 0 = 0 := fun i => by
  rw [List.getD_eq_getElem?_getD, List.getElem?_replicate]
  split <;> rfl
 refine ⟨⟨Sim.start hv h _ (by rw [List.length_replicate]; omega), ⟨fun i hi => absurd hi (by simp), fun i hi => absurd hi (by simp)⟩, fun i _ => by rw [hz]; decide, fun addr _ _ => hz _, fun i hi => absurd hi (by simp)⟩, rfl, rfl, rfl, RestOk.start _ _ _, fun j hj => absurd hj (by simp), fun i j hi => absurd hi (by simp), fun k _ => ?_, fun i hi => absurd hi (by simp), fun k s h => absurd h (show ¬ (0 : Int) ≤ -1 by decide)⟩;show 0 = cntTo _ _
 rw [cntTo_none _ _ (fun s _ => by
  show decide ((2 : Int) = 3) = false;decide)]
end Go.Proofs.YtjikemhmnkckcabGreat
namespace Go.Proofs.YtjikemhmnkckcabGreat
open Go.RowKit
theorem KAll.start {st rest : Int} {cls : List (Int × Int)} {cs : List GCls} (hv : Cf.Valid st rest cls) (h : ClsOk st cls cls.length cs) :
 KAll ⟨st, rest, cls, [], [], 0⟩ ⟨st, rest, cs, List.replicate (16 * Cf.gran st cls cls.length).toNat 0⟩ ⟨st, rest, cls, [], []⟩ :=
 ⟨KOk.start hv h, RestIs.start st rest cls, LiveIs.start st rest cls⟩
theorem TOk.start (st rest : Int) (cls : List (Int × Int)) (now : Int) (cb : Nat) (c : List IC) (h0 : 0 ≤ st) (h1 : st ≤ 16) (hc : c.length = (16 * st).toNat) : TOk [IT.no, ⟨-1, -1, true, cb, c⟩] ⟨st, rest, cls, [], [], now⟩ := by
 refine ⟨rfl, ⟨rfl, rfl, rfl⟩, ⟨rfl, rfl, ?_⟩, fun i hi => absurd hi (by simp), fun i => ?_⟩
 ·show (c.length : Int) = 16 * st;omega
 ·match i with
  | 0 => exact Nat.zero_le _
  | 1 => show c.length ≤ 1000; omega
  | n + 2 => exact Nat.zero_le _
def CellsOk (T : List IT) (B : KSt) (R : RSt) (of : Nat) : Prop := ∀ t : Nat, t < (T.getD of IT.no).cells.length → COk T B ((T.getD of IT.no).cells.getD t IC.no) (R.byte (iBase R.st R.cls T of + t))
def iPart (l : List IC) (v n : Nat) : List IC := (l.drop v).take n
theorem iPart_getD (l : List IC) (v n i : Nat) (hi : i < n) : (iPart l v n).getD i IC.no = l.getD (v + i) IC.no := by
 unfold iPart;rw [List.getD_eq_getElem?_getD, List.getD_eq_getElem?_getD, List.getElem?_take_of_lt hi, List.getElem?_drop]
section
variable {T : List IT} {B : KSt} {G : GSt} {R : RSt}
theorem KAll.place (h : KAll B G R) (hT : TOk T B) (of : Nat) (h1 : 1 ≤ of) (h2 : of < T.length) (v n : Int) (hn : 1 ≤ n) (v0 : 0 ≤ v) (v1 : v ≤ (T.getD of IT.no).cells.length - n) : (bp B of + v) % 72057594037927936 = iBase R.st R.cls T of + v := by
 obtain ⟨t, hat, b0, b1, _⟩ := h.base hT of h1 h2;have hs := hT.sm of;exact (hat.tame v (decide_eq_false (by omega))).2.2.2.1
theorem KAll.load (h : KAll B G R) (hT : TOk T B) (of : Nat) (h1 : 1 ≤ of) (h2 : of < T.length) (hl : (T.getD of IT.no).live = true) (v n : Int) (hn : n = 1 ∨ n = 8) (v0 : 0 ≤ v) (v1 : v ≤ (T.getD of IT.no).cells.length - n) :
 R.load (bp B of + v) n = (Ref.ldV R.byte (iBase R.st R.cls T of + v) n.toNat, 0) := by
 have hf := h.fine hT of h1 h2 hl v n (by omega) v0 v1;unfold RSt.load;rw [if_neg (by rcases hn with rfl | rfl <;> decide), if_neg (fun x => x hf), h.place hT of h1 h2 v n (by omega) v0 v1]
theorem KAll.load8 (h : KAll B G R) (hT : TOk T B) (of : Nat) (h1 : 1 ≤ of) (h2 : of < T.length) (hl : (T.getD of IT.no).live = true) (hc : CellsOk T B R of) (v : Nat) (v1 : v + 8 ≤ (T.getD of IT.no).cells.length) (w : IV) (hw : iKept (iPart (T.getD of IT.no).cells v 8) = some w) :
 (R.load (bp B of + v) 8).2 = 0 ∧ VOk T B w (R.load (bp B of + v) 8).1 := by
 rw [h.load hT of h1 h2 hl v 8 (.inr rfl) (by omega) (by omega)];refine ⟨rfl, kept_ok _ _ _ (fun i hi => ?_) hT w hw⟩;rw [iPart_getD _ _ _ _ hi];have := hc (v + i) (by omega);rw [show iBase R.st R.cls T of + (v : Int) + (i : Int) = iBase R.st R.cls T of + ((v + i : Nat) : Int) by omega];exact this
theorem KAll.load1 (h : KAll B G R) (hT : TOk T B) (of : Nat) (h1 : 1 ≤ of) (h2 : of < T.length) (hl : (T.getD of IT.no).live = true) (hc : CellsOk T B R of) (v : Nat) (v1 : v + 1 ≤ (T.getD of IT.no).cells.length) (hw : ((T.getD of IT.no).cells.getD v IC.no).v.of = 0) :
 (R.load (bp B of + v) 1).2 = 0 ∧ VOk T B ⟨0, ((T.getD of IT.no).cells.getD v IC.no).v.n⟩ (R.load (bp B of + v) 1).1 := by
 rw [h.load hT of h1 h2 hl v 1 (.inl rfl) (by omega) (by omega)];have k := hc v (by omega);have e := k.num hw;have b0 := k.b0;have b1 := k.b1;refine ⟨rfl, ?_⟩
 have el : Ref.ldV R.byte (iBase R.st R.cls T of + v) (1 : Int).toNat = ((T.getD of IT.no).cells.getD v IC.no).v.n := by
  rw [e];show wrap64 (0 + wrap64 (R.byte (iBase R.st R.cls T of + v + ((0 : Nat) : Int)) * 1)) = _;rw [show iBase R.st R.cls T of + (v : Int) + ((0 : Nat) : Int) = iBase R.st R.cls T of + v by omega];unfold wrap64;omega
 show VOk T B _ (Ref.ldV R.byte (iBase R.st R.cls T of + v) (1 : Int).toNat);rw [el];exact VOk.num (by omega) (by omega) hT
theorem COk.of {T' : List IT} {B' : KSt} {c : IC} {b : Int} (h : COk T B c b) (hl : T.length ≤ T'.length) (hb : ∀ of, of < T.length → bp B' of = bp B of) : COk T' B' c b := by
 refine ⟨h.b0, h.b1, h.num, fun x => ?_⟩;obtain ⟨p1, p2, p3⟩ := h.ptr x;have hbp := hb c.v.of p2.of;refine ⟨p1, ⟨by have := p2.of; omega, p2.n0, p2.n1, rfl⟩, ?_⟩;rw [hbp]; exact p3
theorem VOk.to_ {T' : List IT} {B' : KSt} {v : IV} {x : Int} (h : VOk T B v x) (hl : T.length ≤ T'.length) (hb : ∀ of, of < T.length → bp B' of = bp B of) : VOk T' B' v x :=
 ⟨by have := h.of; omega, h.n0, h.n1, by rw [hb _ h.of]; exact h.x⟩
end
end Go.Proofs.YtjikemhmnkckcabGreat
