import Derived.Test.YtjikemhmnkckcabGreatJ32
namespace Go.Proofs.YtjikemhmnkckcabGreat
open Go.RowKit
attribute [local go_sem ↓] Go.wp_at_zero Go.wp_at_succ
theorem info_thing : (Tryz.prog.info? 113).map (fun i => (i.zero, i.size, i.bytes)) = some (some (.agg #[.int .i64 0, .int .i64 0, .bool false, .slice none 0 0]), 4, 48) := by kernel_rfl
theorem info_cell : (Tryz.prog.info? 115).map (fun i => (i.zero, i.size, i.bytes)) = some (some (.agg #[.int .i64 0, .int .i64 0, .int .i64 0]), 3, 24) := by kernel_rfl
theorem made_cells (n : Nat) : (madeCells #[.int .i64 0, .int .i64 0, .int .i64 0] (n * 3)).toList = (List.replicate n IC.no).flatMap icCells := by
 apply List.ext_getElem?;intro j
 by_cases hj : j < n * 3
 ·have e : j = j / 3 * 3 + j % 3 := by omega
  have hf := flat_get icCells 3 (fun _ => rfl) (List.replicate n IC.no) (j / 3) (j % 3) (by omega);rw [← e, List.getElem?_replicate, if_pos (by omega)] at hf;rw [hf];simp only [madeCells, Option.bind_some];simp [hj]
  rcases (show j % 3 = 0 ∨ j % 3 = 1 ∨ j % 3 = 2 by omega) with h | h | h <;> rw [h] <;> rfl
 ·rw [List.getElem?_eq_none (by simp [size_madeCells]; omega), List.getElem?_eq_none (by rw [flat_len icCells 3 (fun _ => rfl)]; simp; omega)]
theorem make_cells (n : Nat) (hn : n ≤ 100000) : ∃ mc : List Value, Hid (mc = (List.replicate n IC.no).flatMap icCells) ∧ ∀ w : World, (Instr.makeSlice 111 (.int .i64 (n : Int)) (.int .i64 (n : Int))).run Tryz.prog w = .ok (.slice (some ⟨w.heap.size, 0, none⟩) n n) (w.alloc (.cells mc.toArray 115)) := by
 obtain ⟨i8, hi8, hy0, hy1, hy2⟩ := info_parts info_cell;refine ⟨(madeCells #[.int .i64 0, .int .i64 0, .int .i64 0] (n * 3)).toList, made_cells n, fun w => ?_⟩;have hr := run_make (P := Tryz.prog) w 111 115 i8 _ Tryz.underlying111 hi8 hy0 .i64 .i64 (n : Int) (n : Int) (by omega) (by omega) (by rw [hy2]; omega) (by omega);rw [hr, hy1];simp [Value.cells]
section
variable (F : IFix) (wB : World) (vT vF : Value) (V : List Value) (col : Nat → Nat) (S : IS) (w : World)
def IMade (F : IFix) (wB : World) (vT vF : Value) (V : List Value) (w w' : World) (S' : IS) : Prop := ∃ vT' V' col', IRep F wB w' vT' vF V' col' S' ∧ Kept w w' (IOwn F.mb vT vF V)
set_option maxRecDepth 100000 in
set_option maxHeartbeats 6400000 in
theorem imalloc_any (h : IRep F wB w vT vF V col S) (hg : IGood F S) (size : Int) (hlen : S.T.length ≤ 1000000) :
 Calls Tryz.prog 99 #[.pointer (some ⟨F.mb, 0, none⟩), .int .i64 size] w fun e w' => e = .returned (vV (iNew F S size)) ∧ IMade F wB vT vF V w w' (S.malloc F size) := by
 obtain ⟨i0, hi0, hz0, hz1, hz2⟩ := info_parts info_thing;obtain ⟨wa, hwa⟩ : ∃ wa, wa = w.alloc (.cells #[.int .i64 0, .int .i64 0] 107) := ⟨_, rfl⟩
 have HB : Hid (Below w.heap.size w wa) := by show Below _ _ _; rw [hwa]; exact (Below.refl _ _).alloc (Nat.le_refl _) _
 have HX : Hid (Blk wa w.heap.size 107 [.int .i64 0, .int .i64 0]) := by show Blk _ _ _ _; rw [hwa]; exact Blk.alloc _ _ _
 have HR := hide2 (h.under HB.out);have HG := hide2 hg;have hl2 := hg.len;have hr1 := hg.conf.re1;have hxl := HX.out.lt;have HOW : Hid (∀ b, IOwn F.mb vT vF V b → b < w.heap.size) := fun b hb => h.own_lt hb
 have c0 := HR.out.c0;have c1 := HR.out.c1;have c2 := HR.out.c2;clear h hg
 rcases gcls_cases F.cls size with hgc | ⟨k, hgc, hk, hs1, hsz, hcl⟩
 ·have HN : Hid (iNew F S size = ⟨0, 0⟩ ∧ S.malloc F size = S) := by
   refine ⟨?_, ?_⟩
   ·unfold iNew; rw [hgc, if_pos (by decide)]
   ·unfold IS.malloc; rw [hgc, if_pos (by decide)]
  have HGC := hide2 hgc;clear hgc;go_enter Tryz.func99, Tryz.ntmps99;go_upto_region 1 with (fail);rw [← hwa];clear hwa
  go_wp2_with fail
  refine (kclass_any F.st F.rest F.ca F.ccap F.cls size wa HG.out.conf HR.out.crow).mono ?_;rw [HGC.out];rintro e1 w1 ⟨rfl, hb1⟩;have hX1 := HX.out.below hb1 hxl;have r0 := hX1.cell (j := 0) rfl;have r1 := hX1.cell (j := 1) rfl;have f0 := hX1.frozen 0;have f1 := hX1.frozen 1;have HBB : Hid (Below w.heap.size w w1) := HB.out.trans (hb1.mono HB.out.size);have HR1 := hide2 (HR.out.under hb1);clear c0 c1 c2 hb1;go_wp2;refine bodyPost_ret (v := .agg #[.int .i64 0, .int .i64 0]) (by simp [results, Tryz.results99, go_sem, r0, r1]) rfl ⟨by rw [HN.out.1]; rfl, ?_⟩;rw [HN.out.2];have hb2 : Below w.heap.size w ((w1.setCell ⟨w.heap.size, 0, none⟩ (.int .i64 0)).setCell ⟨w.heap.size, 1, none⟩ (.int .i64 0)) := (HBB.out.setCell (p := ⟨w.heap.size, 0, none⟩) (Nat.le_refl _) _).setCell (p := ⟨w.heap.size, 1, none⟩) (Nat.le_refl _) _;exact ⟨vT, V, col, HR1.out.aside (X := (· = w.heap.size)) (((Kept.refl w1 (· = w.heap.size)).setCell _ _ rfl).setCell _ _ rfl) (fun b e => ⟨fun x => by have := HOW.out b x; omega, by have := HR.out.below.size; have := HOW.out F.mb (.inl rfl); have := HR.out.hm; omega⟩), Kept.of_below hb2 _⟩
 ·obtain ⟨n, hn⟩ : ∃ n : Nat, n = (Cf.sl F.cls k).toNat := ⟨_, rfl⟩
  have hs16 := HG.out.conf.s1 k hk;have hs0 := HG.out.conf.s0 k hk;have hg8 := HG.out.conf.g1 k hk;have hnI : Cf.sl F.cls k = (n : Int) := by omega
  have HGC := hide2 hgc;have HSL : Hid (iSlot S.T S.F F.rest F.cls k = Ref.firstFrom (iOpen S.T S.F F.rest k) n 0) := by show _ = _; unfold iSlot; rw [hn]
  have HNO : Hid (iSlot S.T S.F F.rest F.cls k < 0 → iNew F S size = ⟨0, 0⟩ ∧ S.malloc F size = S) := fun hx => by
   refine ⟨?_, ?_⟩
   ·unfold iNew; rw [hgc, if_neg (by omega), Int.toNat_natCast, if_pos hx]
   ·unfold IS.malloc; rw [hgc, if_neg (by omega), Int.toNat_natCast, if_pos hx]
  have HYES : Hid (∀ s : Nat, iSlot S.T S.F F.rest F.cls k = (s : Int) → iNew F S size = ⟨S.T.length, 0⟩ ∧ S.malloc F size = S.heap (S.T ++ [⟨k, s, true, 0, List.replicate (16 * Ref.gsz size).toNat IC.no⟩]) S.F) := fun s hx => by
   refine ⟨?_, ?_⟩
   ·unfold iNew; rw [hgc, if_neg (by omega), Int.toNat_natCast, hx, if_neg (by omega)]
   ·unfold IS.malloc; rw [hgc, if_neg (by omega), Int.toNat_natCast, hx, if_neg (by omega)]
  obtain ⟨nb, hnb⟩ := Int.eq_ofNat_of_zero_le (show 0 ≤ 16 * Ref.gsz size by unfold Ref.gsz; omega);have hnb8 : nb ≤ 128 := by unfold Ref.gsz at hnb; omega
  have HNB := hide2 hnb;obtain ⟨mc, hmc, hmk⟩ := make_cells nb (by omega);have hsz8 : size ≤ 128 := by omega
  clear hgc hn hcl hnb;go_enter Tryz.func99, Tryz.ntmps99;go_upto_region 1 with (fail);rw [← hwa];clear hwa
  go_wp2_with fail
  refine (kclass_any F.st F.rest F.ca F.ccap F.cls size wa HG.out.conf HR.out.crow).mono ?_;rw [HGC.out];rintro e1 w1 ⟨rfl, hb1⟩;have HX1 := hide2 (HX.out.below hb1 hxl);have HBB : Hid (Below w.heap.size w w1) := HB.out.trans (hb1.mono HB.out.size);have HR1 := hide2 (HR.out.under hb1);have hx1 := HX1.out.lt;clear c0 c1 c2 hb1 HR HX HB hxl;obtain ⟨g, off, hca, hgl, hcell⟩ := HR1.out.crow.cells (by omega);obtain ⟨-, d1⟩ := hcell k hk;rw [hnI] at d1;have c2 := HR1.out.c2;rw [hca] at c2;have hmb := HR1.out.blk.lt;have hkI : (k : Int) < (F.cls.length : Int) := by omega
  have hcc := HR1.out.crow.len;have hcm := HR1.out.crow.cap;unfold maxLen at hcm;clear hcell;go_wp2
  go_loopw [6] (fun i wr => ∃ m : Nat, m ≤ n ∧ i = .int .i64 (m : Int) ∧ Hid (Ref.firstFrom (iOpen S.T S.F F.rest k) n 0 = Ref.firstFrom (iOpen S.T S.F F.rest k) (n - m) m) ∧ Below w1.heap.size w1 wr) (fun i _ => n - (intOf i).toNat)
  case atStart => exact ⟨0, by omega, rfl, rfl, Below.refl _ _⟩
  case round =>
   obtain ⟨m, hm, rfl, hff, hb⟩ := hrel;have c2' := (hb.cell (p := ⟨F.mb, 2, none⟩) hmb).trans c2;have d1' := (hb.cell (p := ⟨g, off + k * 2 + 1, none⟩) hgl).trans d1;have HRr := hide2 (HR1.out.under hb)
   by_cases hlt : m < n
   ·have hI : (m : Int) < (n : Int) := by omega
    obtain ⟨f, hf⟩ : ∃ f, n - m = f + 1 := ⟨n - m - 1, by omega⟩
    have hst : Hid (Ref.firstFrom (iOpen S.T S.F F.rest k) (n - m) m = if iOpen S.T S.F F.rest k m = true then (m : Int) else Ref.firstFrom (iOpen S.T S.F F.rest k) (n - (m + 1)) (m + 1)) := by
     show _ = _;rw [hf, show n - (m + 1) = f by omega]; rfl
    have HOP : Hid (iOpen S.T S.F F.rest k m = !(krests S.F F.rest k m || (decide (0 < iLast S.T k m) && (S.T.getD (iLast S.T k m) IT.no).live))) := rfl;have hll := iLast_lt S.T (k : Int) (m : Int) (by omega);clear hf
    go_wp2_with fail
    refine (ilast_any F wB vT vF V col S _ HRr.out (k : Int) (m : Int) (by omega) hlen).mono ?_;rintro e2 w2 ⟨rfl, hb2⟩;have HR2 := hide2 (HRr.out.under hb2);have HB2 : Hid (Below w1.heap.size w1 w2) := hb.trans (hb2.mono hb.size);clear c2' d1' hb2
    go_wp2_with fail
    refine (irests_any F wB vT vF V col S w2 HR2.out (k : Int) (m : Int) (by omega)).mono ?_;rintro e3 w3 ⟨rfl, hb3⟩;have HR3 := hide2 (HR2.out.under hb3);have HB3 : Hid (Below w1.heap.size w1 w3) := HB2.out.trans (hb3.mono HB2.out.size);clear hb3 HR2 HB2;obtain ⟨gt, cap, e5, hcap, hmax, hgtl, -, hcellT⟩ := HR3.out.things (by omega);have c5 := HR3.out.c5;rw [e5] at c5;obtain ⟨-, -, t2, -⟩ := hcellT _ hll;have hllI : (iLast S.T (k : Int) (m : Int) : Int) < (S.T.length : Int) := by omega
    unfold maxLen at hmax;clear hcellT;have HE5 := hide2 e5;clear e5;generalize iLast S.T (k : Int) (m : Int) = l at *;generalize (S.T.getD l IT.no).live = xl at *
    have key : krests S.F F.rest (k : Int) (m : Int) = true ∨ (krests S.F F.rest (k : Int) (m : Int) = false ∧ (0 : Int) < (l : Int) ∧ xl = true) ∨ (krests S.F F.rest (k : Int) (m : Int) = false ∧ (0 : Int) < (l : Int) ∧ xl = false) ∨ (krests S.F F.rest (k : Int) (m : Int) = false ∧ ¬ (0 : Int) < (l : Int)) := by
     cases krests S.F F.rest (k : Int) (m : Int)
     ·by_cases l0 : 0 < l
      ·cases xl
       ·exact .inr (.inr (.inl ⟨rfl, by omega, rfl⟩))
       ·exact .inr (.inl ⟨rfl, by omega, rfl⟩)
      ·exact .inr (.inr (.inr ⟨rfl, by omega⟩))
     ·exact .inl rfl
    rcases key with kr | ⟨kr, l0, rfl⟩ | ⟨kr, l0, rfl⟩ | ⟨kr, l0⟩
    ·have HOK : Hid (iOpen S.T S.F F.rest k m = false) := by show _ = _; rw [HOP.out, kr]; rfl
     rw [kr];clear kr HOP;go_wp2
     go_roundw
     case rel => exact ⟨m + 1, by omega, by go_num, by show _ = _; rw [hff.out, hst.out, HOK.out]; rfl, HB3.out⟩
     case measure => simp [intOf]; omega
    ·have HOK : Hid (iOpen S.T S.F F.rest k m = false) := by show _ = _; rw [HOP.out, kr]; simp; omega
     rw [kr];clear kr HOP;go_wp2
     go_roundw
     case rel => exact ⟨m + 1, by omega, by go_num, by show _ = _; rw [hff.out, hst.out, HOK.out]; rfl, HB3.out⟩
     case measure => simp [intOf]; omega
    all_goals
     have HOK : Hid (iOpen S.T S.F F.rest k m = true) := by
      show _ = _;rw [HOP.out, kr]
      first
       | (rw [Bool.and_false]; rfl)
       | (rw [decide_eq_false (fun x => l0 (by omega))]; rfl)
     rw [kr];clear kr HOP;go_upto_region 10 with (fail);have HM := hide2 (HYES.out m (by rw [HSL.out, hff.out, hst.out, if_pos HOK.out]));have hrow0 := HR3.out.T;rw [HE5.out] at hrow0;have hrow := hide2 hrow0
     have hmt : gt ≠ F.mb := fun e => by
      have h1 := HR3.out.colT (b := gt) (by rw [HE5.out]; rfl);have h2 := HR3.out.sep.mb;rw [e, h2] at h1; omega
     have hmb3 := HR3.out.blk.lt;have cf5 := HR3.out.blk.frozen 5
     have HNEW : Hid (((w3.alloc (.cells mc.toArray 115)).alloc (.cells #[.int .i64 (k : Int), .int .i64 (m : Int), .bool true, .slice (some ⟨w3.heap.size, 0, none⟩) nb nb] 113)).heap[w3.heap.size + 1]? = some (.cells #[.int .i64 (k : Int), .int .i64 (m : Int), .bool true, .slice (some ⟨w3.heap.size, 0, none⟩) nb nb] 113)) := by
      have := heap_alloc_new (w3.alloc (.cells mc.toArray 115)) (.cells #[.int .i64 (k : Int), .int .i64 (m : Int), .bool true, .slice (some ⟨w3.heap.size, 0, none⟩) nb nb] 113);rw [World.size_alloc] at this;exact this
     clear hrow0 t2 hllI hll l0
     go_region_law
      ((first | (refine step_append_lies _ (by rfl) _ _ _ (by rfl) 0 113 i0 _ 4 48 Tryz.underlying104 hi0 hz0 hz1 hz2 rfl (by omega) (.slice (some ⟨gt, 0, none⟩) S.T.length cap) S.T.length ((S.T.zip V).flatMap itCells) (by rfl) (((hrow.out.alloc _).alloc _).drew) ⟨w3.heap.size + 1, 0, none⟩ 1 1 [.int .i64 (k : Int), .int .i64 (m : Int), .bool true, .slice (some ⟨w3.heap.size, 0, none⟩) nb nb] (by rfl) (by rfl) (World.news_of_block (cs := #[.int .i64 (k : Int), .int .i64 (m : Int), .bool true, .slice (some ⟨w3.heap.size, 0, none⟩) nb nb]) (t := 113) (fr := (0, 0)) HNEW.out) (by simp [Value.oneCell']) (by omega) (by simp [maxLen]; omega) (by omega) (by simp) (w3.heap.size + 1 + 1) (by simp) ?_; intro gg cap2 w7 hown hgrow hat hlt7; have c5' : w7.cell? ⟨F.mb, 5, none⟩ = some (.slice (some ⟨gt, 0, none⟩) S.T.length cap) := (by rw [hgrow.cell_far _ (by simp; omega) (by simp [Value.ownBlock]; omega), World.cell?_drew, World.cell?_alloc_lt _ _ _ (by simp; omega), World.cell?_alloc_lt _ _ _ hmb3]; exact c5); have f5' : w7.frozen? ⟨F.mb, 5, none⟩ = false := (by rw [hgrow.frozen_far _ (by simp; omega) (by simp [Value.ownBlock]; omega), World.frozen?_drew, World.frozen?_alloc_old _ _ _ (by simp; omega), World.frozen?_alloc_old _ _ _ (by show F.mb ≠ _; omega)]; exact cf5)) | (go_simp; refine (kwhole_any size _ hs1 hsz8).mono ?_; rw [HNB.out]; rintro e4 w4 ⟨rfl, rfl⟩)))
     all_goals
      have hg7 : ((w3.alloc (.cells mc.toArray 115)).alloc (.cells #[.int .i64 (k : Int), .int .i64 (m : Int), .bool true, .slice (some ⟨w3.heap.size, 0, none⟩) nb nb] 113)).grownBy w7 (Value.slice (some ⟨gt, 0, none⟩) S.T.length cap).ownBlock := ⟨hgrow.os, hgrow.tape, hgrow.output, hgrow.size, hgrow.block⟩
      have HPUSH : Hid (∃ col', IRep F wB (w7.setCell ⟨F.mb, 5, none⟩ (.slice (some ⟨gg, 0, none⟩) (S.T.length + 1) cap2)) (.slice (some ⟨gg, 0, none⟩) (S.T.length + 1) cap2) vF (V ++ [.slice (some ⟨w3.heap.size, 0, none⟩) nb nb]) col' (S.malloc F size) ∧ Kept w3 (w7.setCell ⟨F.mb, 5, none⟩ (.slice (some ⟨gg, 0, none⟩) (S.T.length + 1) cap2)) (IOwn F.mb vT vF V)) := by
       have hs7 := hg7.size;rw [World.size_alloc, World.size_alloc] at hs7;have hob : (Value.slice (some ⟨gt, 0, none⟩) S.T.length cap).ownBlock = some gt := rfl
       have hk7 : Kept w3 w7 (fun b => vT.ownBlock = some b) := ⟨hg7.os, hg7.tape, hg7.output, by omega, fun b hb hn => by
        rw [hg7.block b (by rw [World.size_alloc, World.size_alloc]; omega) (fun e => hn (by rw [HE5.out]; exact e.symm))];exact (Below.heap_alloc _ _ b (by rw [World.size_alloc]; omega)).trans (Below.heap_alloc w3 _ b hb)⟩
       have hx7 : Blk w7 w3.heap.size 115 ((List.replicate nb IC.no).flatMap icCells) := by
        have e1 := hg7.block w3.heap.size (by rw [World.size_alloc, World.size_alloc]; omega) (fun e => by rw [hob] at e; injection e with e; omega);refine (e1.trans (Below.heap_alloc _ _ w3.heap.size (by rw [World.size_alloc]; omega))).trans ?_;rw [← hmc.out];exact heap_alloc_new w3 _
       have hp := HR3.out.push ⟨k, m, true, 0, List.replicate nb IC.no⟩ w3.heap.size (w7 := w7) (gg := gg) (cap := cap2) (by omega) (by
        rw [show itCells ((⟨k, m, true, 0, List.replicate nb IC.no⟩ : IT), Value.slice (some ⟨w3.heap.size, 0, none⟩) (⟨k, m, true, 0, List.replicate nb IC.no⟩ : IT).cells.length (⟨k, m, true, 0, List.replicate nb IC.no⟩ : IT).cells.length) = [.int .i64 (k : Int), .int .i64 (m : Int), .bool true, .slice (some ⟨w3.heap.size, 0, none⟩) nb nb] by simp [itCells]];exact hown) hk7 hx7 (Nat.le_refl _) (hat.imp (fun e => by rw [HE5.out]; exact e) (fun e => by omega))
       show ∃ col', _ ∧ _;rw [HM.out.2, HNB.out, Int.toNat_natCast];simp only [List.length_replicate] at hp;exact hp
      clear hg7
      have HNO2 : Hid (¬ IOwn F.mb (.slice (some ⟨gg, 0, none⟩) (S.T.length + 1) cap2) vF (V ++ [.slice (some ⟨w3.heap.size, 0, none⟩) nb nb]) w.heap.size) := by
       have hw3 := Nat.lt_of_lt_of_le hx1 HB3.out.size;rintro (x | x | x | ⟨i, x⟩)
       ·have := HOW.out F.mb (.inl rfl); omega
       ·change some gg = some w.heap.size at x;injection x with x
        rcases hat with e | e
        ·change some gt = some gg at e;injection e with e;have := HOW.out gt (.inr (.inl (by rw [HE5.out]; rfl)));omega
        ·omega
       ·have := HOW.out _ (.inr (.inr (.inl x))); omega
       ·rw [List.getD_eq_getElem?_getD] at x
        by_cases hi : i < V.length
        ·rw [List.getElem?_append_left hi, ← List.getD_eq_getElem?_getD] at x;have := HOW.out _ (.inr (.inr (.inr ⟨i, x⟩))); omega
        ·rw [List.getElem?_append_right (by omega)] at x
         by_cases hi2 : i - V.length = 0
         ·rw [hi2] at x;change some w3.heap.size = some w.heap.size at x;injection x with x;omega
         ·rw [List.getElem?_eq_none (by simp; omega)] at x;exact absurd x (by simp [vNo, Value.ownBlock])
      obtain ⟨col', HRF0, HKF0⟩ := HPUSH.out;have HRF := hide2 HRF0;have HKF := hide2 HKF0;have hX8 : Blk (w7.setCell ⟨F.mb, 5, none⟩ (.slice (some ⟨gg, 0, none⟩) (S.T.length + 1) cap2)) w.heap.size 107 [.int .i64 0, .int .i64 0] := (HKF0.block w.heap.size (Nat.lt_of_lt_of_le hx1 HB3.out.size) (fun x => by have := HOW.out _ x; omega)).trans ((HB3.out.block w.heap.size hx1).trans HX1.out);have HX8 := hide2 hX8;generalize w7.setCell ⟨F.mb, 5, none⟩ (.slice (some ⟨gg, 0, none⟩) (S.T.length + 1) cap2) = w8 at *;have r0 := HX8.out.cell (j := 0) rfl;have r1 := HX8.out.cell (j := 1) rfl;have f0 := HX8.out.frozen 0;have f1 := HX8.out.frozen 1;have c58 := HRF.out.c5;clear HRF0 HKF0 hX8 c5' f5' hown hgrow hat hlt7;go_wp2;refine bodyPost_ret (v := .agg #[.int .i64 (S.T.length : Int), .int .i64 0]) (by simp [results, Tryz.results99, go_sem, r0, r1]) rfl ⟨by rw [HM.out.1]; rfl, ?_⟩;have hb3w := HBB.out.trans (HB3.out.mono HBB.out.size);have hkk : Kept w w8 (IOwn F.mb vT vF V) := (Kept.of_below hb3w _).trans HKF.out;exact ⟨_, _, col', HRF.out.aside (X := (· = w.heap.size)) (((Kept.refl _ (· = w.heap.size)).setCell _ _ rfl).setCell _ _ rfl) (fun b e => ⟨fun x => HNO2.out (by rw [← e]; exact x), by have := HRF.out.below.size; have := HOW.out F.mb (.inl rfl); have := HRF.out.hm; omega⟩), (hkk.setNew _ _ (Nat.le_refl _)).setNew _ _ (Nat.le_refl _)⟩
   ·obtain rfl : m = n := by omega
    have HM := hide2 (HNO.out (by rw [HSL.out, hff.out, Nat.sub_self]; show (-1 : Int) < 0; omega));have hX1 := HX1.out.below hb hx1;have r0 := hX1.cell (j := 0) rfl;have r1 := hX1.cell (j := 1) rfl;have f0 := hX1.frozen 0;have f1 := hX1.frozen 1;go_wp2;refine bodyPost_ret (v := .agg #[.int .i64 0, .int .i64 0]) (by simp [results, Tryz.results99, go_sem, r0, r1]) rfl ⟨by rw [HM.out.1]; rfl, ?_⟩;rw [HM.out.2];have hbb := HBB.out.trans (hb.mono HBB.out.size);have hb2 := (hbb.setCell (p := ⟨w.heap.size, 0, none⟩) (Nat.le_refl _) (.int .i64 0)).setCell (p := ⟨w.heap.size, 1, none⟩) (Nat.le_refl _) (.int .i64 0);exact ⟨vT, V, col, HRr.out.aside (X := (· = w.heap.size)) (((Kept.refl _ (· = w.heap.size)).setCell _ _ rfl).setCell _ _ rfl) (fun b e => ⟨fun x => by have := HOW.out b x; omega, by have := HRr.out.below.size; have := HOW.out F.mb (.inl rfl); have := HRr.out.hm; omega⟩), Kept.of_below hb2 _⟩
end
theorem info_spot2 : (Tryz.prog.info? 175).map (fun i => (i.zero, i.size, i.bytes)) = some (some (.agg #[.int .i64 0, .int .i64 0]), 2, 16) := by kernel_rfl
section
variable (F : IFix) (wB : World) (vT vF : Value) (V : List Value) (col : Nat → Nat) (S : IS) (w : World)
def IFreed (F : IFix) (wB : World) (vT vF : Value) (V : List Value) (w w' : World) (S' : IS) : Prop := ∃ vF' col', IRep F wB w' vT vF' V col' S' ∧ Kept w w' (IOwn F.mb vT vF V)
set_option maxRecDepth 100000 in
set_option maxHeartbeats 6400000 in
theorem ifree_any (h : IRep F wB w vT vF V col S) (o : Nat) (ho : o < S.T.length) (hlen : S.T.length ≤ 1000000) (hfl : S.F.length ≤ 1000000) :
 Calls Tryz.prog 102 #[.pointer (some ⟨F.mb, 0, none⟩), .int .i64 (o : Int)] w fun e w' => e = .returned (.tuple #[]) ∧ IFreed F wB vT vF V w w' (S.free o) := by
 obtain ⟨i0, hi0, hz0, hz1, hz2⟩ := info_parts info_spot2;obtain ⟨g, cap, e5, hcap, hmax, hgl, hfz, hcell⟩ := h.things (by omega);have HE5 := hide2 e5;have c5 := h.c5;rw [e5] at c5;obtain ⟨-, -, d2, -⟩ := hcell o ho;have f2 := hfz (o * 4 + 2);have hoI : (o : Int) < (S.T.length : Int) := by omega
 unfold maxLen at hmax;have hof := h;rw [e5] at hof
 have HR1 : Hid (IRep F wB (w.setCell ⟨g, o * 4 + 2, none⟩ (.bool false)) vT vF V col (S.heap (S.T.set o (S.T.getD o IT.no).off) S.F)) := by
  show IRep _ _ _ _ _ _ _ _;have := hof.offT rfl o ho;rw [← e5] at this;exact this
 have HK1 : Hid (Kept w (w.setCell ⟨g, o * 4 + 2, none⟩ (.bool false)) (IOwn F.mb vT vF V)) := by
  show Kept _ _ _;exact (Kept.refl w _).setCell _ _ (.inr (.inl (by rw [e5]; rfl)))
 clear h hof hcell e5 hfz;go_enter Tryz.func102, Tryz.ntmps102;go_upto_region 1 with (fail);obtain ⟨w1, hw1⟩ : ∃ w1, w1 = w.setCell ⟨g, o * 4 + 2, none⟩ (.bool false) := ⟨_, rfl⟩
 rw [← hw1] at HR1 HK1 ⊢;clear hw1 c5 d2 f2;obtain ⟨g1, cap1, e51, hcap1, hmax1, hgl1, -, hcell1⟩ := HR1.out.things (by show 0 < (S.T.set _ _).length; rw [List.length_set]; omega);have hl1 : (S.heap (S.T.set o (S.T.getD o IT.no).off) S.F).T.length = S.T.length := by show (S.T.set _ _).length = _; exact List.length_set
 rw [hl1] at e51 hcap1 hcell1;have c5 := HR1.out.c5;rw [e51] at c5;have c6 := HR1.out.c6;have cf6 := HR1.out.blk.frozen 6;have hmb1 := HR1.out.blk.lt;obtain ⟨d0, d1, -, -⟩ := hcell1 o ho
 have hgd : (S.heap (S.T.set o (S.T.getD o IT.no).off) S.F).T.getD o IT.no = (S.T.getD o IT.no).off := by
  show (S.T.set o _).getD o IT.no = _;rw [getD_setT _ _ _ _ ho, if_pos rfl]
 rw [hgd] at d0 d1;change w1.cell? ⟨g1, o * 4, none⟩ = some (.int .i64 (S.T.getD o IT.no).cls) at d0;change w1.cell? ⟨g1, o * 4 + 1, none⟩ = some (.int .i64 (S.T.getD o IT.no).slot) at d1;unfold maxLen at hmax1;have HSF : Hid (S.free o = (S.heap (S.T.set o (S.T.getD o IT.no).off) S.F).heap (S.heap (S.T.set o (S.T.getD o IT.no).off) S.F).T (S.F ++ [((S.T.getD o IT.no).cls, (S.T.getD o IT.no).slot)])) := rfl;have hrow : Hid (w1.ownsRow 0 175 2 vF S.F.length (S.F.flatMap spotCells)) := HR1.out.Fr
 have HAP : Hid (vF.ownBlock ≠ some F.mb) := fun e => by
  have h1 := HR1.out.colF e;rw [HR1.out.sep.mb] at h1; omega
 clear hcell1 hgd hl1 HE5 e51;generalize (S.T.getD o IT.no).cls = xk at *;generalize (S.T.getD o IT.no).slot = xs at *
 go_region_law ((refine step_append_lies _ (by rfl) _ _ _ (by rfl) 0 175 i0 _ 2 16 Tryz.underlying105 hi0 hz0 hz1 hz2 rfl (by omega) vF S.F.length (S.F.flatMap spotCells) (by rfl) ((hrow.out.alloc _).drew) ⟨w1.heap.size, 0, none⟩ 1 1 [.int .i64 xk, .int .i64 xs] (by rfl) (by rfl) (World.news_of_block (cs := #[.int .i64 xk, .int .i64 xs]) (t := 175) (fr := (0, 0)) (heap_alloc_new w1 _)) (by simp [Value.oneCell']) (by omega) (by simp [maxLen]; omega) (by omega) (by simp) (w1.heap.size + 1) (by simp) ?_; intro gg cap2 w7 hown hgrow hat hlt7; have c6' : w7.cell? ⟨F.mb, 6, none⟩ = some vF := (by rw [hgrow.cell_far _ (by simp; omega) (fun e => HAP.out e.symm), World.cell?_drew, World.cell?_alloc_lt _ _ _ hmb1]; exact c6); have f6' : w7.frozen? ⟨F.mb, 6, none⟩ = false := (by rw [hgrow.frozen_far _ (by simp; omega) (fun e => HAP.out e.symm), World.frozen?_drew, World.frozen?_alloc_old _ _ _ (by show F.mb ≠ _; omega)]; exact cf6)))
 all_goals
  have hg7 : (w1.alloc (.cells #[.int .i64 xk, .int .i64 xs] 175)).grownBy w7 vF.ownBlock := ⟨hgrow.os, hgrow.tape, hgrow.output, hgrow.size, hgrow.block⟩
  have hs7 := hg7.size;rw [World.size_alloc] at hs7
  have hk7 : Kept w1 w7 (fun b => vF.ownBlock = some b) := ⟨hg7.os, hg7.tape, hg7.output, by omega, fun b hb hn => by
   rw [hg7.block b (by rw [World.size_alloc]; omega) (fun e => hn e.symm)];exact Below.heap_alloc w1 _ b hb⟩
  have hpush := HR1.out.pushF (xk, xs) (w7 := w7) (gg := gg) (cap := cap2) hown hk7 (hat.imp id (fun e => by omega));have HP := hide2 hpush;clear hg7 hk7 hpush;go_end0;obtain ⟨col', hR, hK⟩ := HP.out;exact ⟨rfl, _, col', by rw [HSF.out]; exact hR, HK1.out.trans hK⟩
set_option maxRecDepth 100000 in
set_option maxHeartbeats 1600000 in
theorem idraw_no (h : IRep F wB w vT vF V col S) (hd : ¬ S.drawn < F.nd) :
 Calls Tryz.prog 98 #[.pointer (some ⟨F.mb, 0, none⟩)] w fun e w' => e = .returned (.bool false) ∧ IRep F wB w' vT vF V col (S.ends 4) ∧ Kept w w' (· = F.mb) := by
 have c24 := h.c24;have hz : (F.nd : Int) - (S.drawn : Int) = 0 := by have := h.dl; omega
 rw [hz] at c24;have HR := hide2 (h.setEn 4);have c26 := h.c26;have f26 := h.blk.frozen 26;clear h;go_enter Tryz.func98, Tryz.ntmps98;go_wp2;go_ret;exact ⟨rfl, HR.out, (Kept.refl w (· = F.mb)).setCell _ _ rfl⟩
set_option maxRecDepth 100000 in
set_option maxHeartbeats 1600000 in
theorem idraw_yes (h : IRep F wB w vT vF V col S) (hd : S.drawn < F.nd) (hn : (F.nd : Int) ≤ 9223372036854775807) :
 Calls Tryz.prog 98 #[.pointer (some ⟨F.mb, 0, none⟩)] w fun e w' => e = .returned (.bool true) ∧ IRep F wB w' vT vF V col S.drew ∧ Kept w w' (· = F.mb) := by
 have c24 := h.c24;have c30 := h.c30;have f24 := h.blk.frozen 24;have f30 := h.blk.frozen 30;have hne : ((F.nd : Int) - (S.drawn : Int) == 0) = false := by simp; omega
 have HR := hide2 (h.setDraw hd);have e1 : (F.nd : Int) - (S.drawn : Int) - 1 = (F.nd : Int) - ((S.drawn + 1 : Nat) : Int) := by omega
 have e2 : (S.drawn : Int) + 1 = ((S.drawn + 1 : Nat) : Int) := by omega
 have HE := hide2 (And.intro e1 e2);clear h e1 e2;go_enter Tryz.func98, Tryz.ntmps98;go_wp2;go_ret;refine ⟨rfl, ?_, ((Kept.refl w (· = F.mb)).setCell _ _ rfl).setCell _ _ rfl⟩;have := HR.out;rw [← HE.out.1, ← HE.out.2] at this;exact this
end
def IDone (F : IFix) (wB w : World) (S : IS) : Prop := ∃ vT vF V col S', IRep F wB w vT vF V col S' ∧ (S' = S ∨ (S.en = 102 ∧ (S'.en = 101 ∨ S'.en = 102)))
section
variable (F : IFix) (wB : World) (vT vF : Value) (V : List Value) (col : Nat → Nat) (S : IS) (w : World)
theorem imalloc2 (h : IRep F wB w vT vF V col S) (hg : IGood F S) (size : Int) (hlen : S.T.length ≤ 1000000) :
 Calls Tryz.prog 99 #[.pointer (some ⟨F.mb, 0, none⟩), .int .i64 size] w fun e w' => e = .returned (.agg #[.int .i64 ((iNew F S size).of : Int), .int .i64 (iNew F S size).n]) ∧ IMade F wB vT vF V w w' (S.malloc F size) := imalloc_any F wB vT vF V col S w h hg size hlen
theorem Kept.blk {w w1 : World} {X : Nat → Prop} (hk : Kept w w1 X) {b : Nat} {t : TypeId} {xs : List Value} (h : Blk w b t xs) (hn : ¬ X b) : Blk w1 b t xs := (hk.block b h.lt hn).trans h
theorem IGood.drew {F : IFix} {S : IS} (h : IGood F S) : IGood F S.drew := ⟨h.conf, h.len, h.t0, h.t1, h.z0, h.tn, h.sm, h.rv, h.r8⟩
theorem IGood.num {F : IFix} {S : IS} (h : IGood F S) (k : Nat) : IGood F (S.num k) := by
 unfold IS.num; split
 ·exact h
 ·exact ⟨h.conf, h.len, h.t0, h.t1, h.z0, h.tn, h.sm, h.rv, h.r8⟩
theorem iNew_num (F : IFix) (S : IS) (k : Nat) (n : Int) : iNew F (S.num k) n = iNew F S n := by
 unfold IS.num; split <;> rfl
theorem num_T (S : IS) (k : Nat) : (S.num k).T = S.T ∧ (S.num k).F = S.F ∧ (S.num k).r = S.r := by unfold IS.num; split <;> exact ⟨rfl, rfl, rfl⟩
set_option maxRecDepth 100000 in
set_option maxHeartbeats 6400000 in
theorem iblock_malloc (h : IRep F wB w vT vF V col S) (hg : IGood F S) (ka kb : Nat) (c : Int) (hka : ka < 8) (hkb : kb < 8) (hlen : S.T.length ≤ 1000000) (hnd : (F.nd : Int) ≤ 9223372036854775807) :
 Calls Tryz.prog 70 #[.pointer (some ⟨F.mb, 0, none⟩), .agg #[.int .i64 11, .int .i64 (ka : Int), .int .i64 (kb : Int), .int .i64 c]] w fun e w' => e = .returned (.tuple #[]) ∧ IDone F wB w' (iMalloc F S ka kb) := by
 obtain ⟨wa, hwa⟩ : ∃ wa, wa = w.alloc (.cells #[.int .i64 11, .int .i64 (ka : Int), .int .i64 (kb : Int), .int .i64 c] 60) := ⟨_, rfl⟩
 have HB : Hid (Below w.heap.size w wa) := by show Below _ _ _; rw [hwa]; exact (Below.refl _ _).alloc (Nat.le_refl _) _
 have HX : Hid (Blk wa w.heap.size 60 [.int .i64 11, .int .i64 (ka : Int), .int .i64 (kb : Int), .int .i64 c]) := by show Blk _ _ _ _; rw [hwa]; exact Blk.alloc _ _ _
 have HRa := hide2 (h.under HB.out);have HG := hide2 hg;have HOW : Hid (∀ b, IOwn F.mb vT vF V b → b < w.heap.size) := fun b hb => h.own_lt hb
 have x0 := HX.out.cell (j := 0) rfl;have x1 := HX.out.cell (j := 1) rfl;have x2 := HX.out.cell (j := 2) rfl;have x3 := HX.out.cell (j := 3) rfl;have hxl := HX.out.lt;have c7 := HRa.out.cOf kb hkb;have c8 := HRa.out.cN kb hkb;have kaI : (ka : Int) < 8 := by omega
 have kbI : (kb : Int) < 8 := by omega
 clear h hg;obtain ⟨vo, hvo⟩ : ∃ vo, vo = (iv S.r kb).of := ⟨_, rfl⟩
 obtain ⟨vn, hvn⟩ : ∃ vn, vn = (iv S.r kb).n := ⟨_, rfl⟩
 rw [← hvo] at c7;rw [← hvn] at c8;have HVO := hide2 hvo;have HVN := hide2 hvn;clear hvo hvn;go_enter Tryz.func70, Tryz.ntmps70;go_upto_region 1 with (fail);rw [← hwa];clear hwa
 go_region_held3 (fun w' => w'.cell? ⟨w.heap.size, 2, none⟩ = some (.int .i64 (kb : Int)) ∧ w'.cell? ⟨F.mb, 7 + kb * 2, none⟩ = some (.int .i64 (vo : Int)) ∧ w'.cell? ⟨F.mb, 7 + kb * 2 + 1, none⟩ = some (.int .i64 vn)) (go_keep) (first | fail)
 rename_i hold
 clear hold;obtain ⟨wb, hwb⟩ : ∃ wb, wb = (wa.alloc (.cells #[.int .i64 (vo : Int), .int .i64 vn] 107)).drew := ⟨_, rfl⟩
 rw [← hwb];have HBb : Hid (Below wa.heap.size wa wb) := by show Below _ _ _; rw [hwb]; exact ((Below.refl _ _).alloc (Nat.le_refl _) _).drew
 have HY : Hid (Blk wb wa.heap.size 107 [.int .i64 (vo : Int), .int .i64 vn]) := by show Blk _ _ _ _; rw [hwb]; exact Blk.alloc _ _ _
 have HXb := hide2 (HX.out.below HBb.out hxl);have HRb := hide2 (HRa.out.under HBb.out);have HBB : Hid (Below w.heap.size w wb) := HB.out.trans (HBb.out.mono HB.out.size);clear x0 x1 x2 x3 c7 c8 hwb HX HRa;have x0 := HXb.out.cell (j := 0) rfl;have x1 := HXb.out.cell (j := 1) rfl;have x2 := HXb.out.cell (j := 2) rfl;have y0 := HY.out.cell (j := 0) rfl;have y1 := HY.out.cell (j := 1) rfl;have hnm : ¬ w.heap.size = F.mb := fun e => by have := HOW.out F.mb (.inl rfl); omega
 have hnm' : F.mb ≠ w.heap.size := fun e => hnm e.symm
 have hnm2 : ¬ wa.heap.size = F.mb := fun e => by have := HOW.out F.mb (.inl rfl); have := HB.out.size; omega
 have hNO : Hid (¬ IOwn F.mb vT vF V w.heap.size) := fun x => by have := HOW.out _ x; omega
 by_cases hd : S.drawn < F.nd
 ·have HS : Hid (iMalloc F S ka kb = ((S.drew.num kb).malloc F (iv S.drew.r kb).n).reg ka (iNew F (S.drew.num kb) (iv S.drew.r kb).n)) := by
   show _ = _;unfold iMalloc;rw [if_pos hd, iNew_num]; rfl
  have HT : Hid ((S.drew.num kb).T.length ≤ 1000000) := by show _ ≤ _; rw [(num_T S.drew kb).1]; exact hlen
  go_wp2_with fail
  all_goals
   refine (idraw_yes F wB vT vF V col S wb HRb.out hd hnd).mono ?_;rintro e1 w1 ⟨rfl, hR1, hk1⟩;have HR1 := hide2 hR1;have HX1 := hide2 (hk1.blk HXb.out hnm);clear x0 x1 x2 y0 y1 hR1 hk1;have x2 := HX1.out.cell (j := 2) rfl
   go_wp2_with fail
   refine (inumber_any F wB vT vF V col S.drew w1 HR1.out kb hkb).mono ?_;rintro e2 w2 ⟨rfl, hR2, hk2⟩;have HR2 := hide2 hR2;have HX2 := hide2 (hk2.blk HX1.out hnm);clear x2 hR2 hk2;have x1 := HX2.out.cell (j := 1) rfl;have hx2 := HX2.out.lt;have HRD : Hid (IRep F wB w2.drew vT vF V col (S.drew.num kb)) := HR2.out.under ((Below.refl _ _).drew);have HXD : Hid (Blk w2.drew w.heap.size 60 [.int .i64 11, .int .i64 (ka : Int), .int .i64 (kb : Int), .int .i64 c]) := HX2.out;generalize (iv S.drew.r kb).n = sz at *
   go_wp2_with fail
   go_region_held3 (fun w' => w'.cell? ⟨w.heap.size, 1, none⟩ = some (.int .i64 (ka : Int))) (go_keep)
    (first | (go_at_call 99; refine (imalloc2 F wB vT vF V col (S.drew.num kb) w2.drew HRD.out ((HG.out.drew).num kb) sz HT.out).mono ?_; rintro e3 w3 ⟨rfl, hm3⟩; obtain ⟨vT3, V3, col3, hR3, hk3⟩ := hm3; have HR3 := hide2 hR3; have x1' : w3.cell? ⟨w.heap.size, 1, none⟩ = some (.int .i64 (ka : Int)) := (hk3.blk HXD.out hNO.out).cell (j := 1) rfl; have q7 := hR3.cOf ka hka; have q8 := hR3.cN ka hka; have f7 := hR3.blk.frozen (7 + ka * 2); have f8 := hR3.blk.frozen (7 + ka * 2 + 1); clear hR3 hk3))
   have HFIN := hide2 (HR3.out.setReg ka hka (iNew F (S.drew.num kb) sz));go_wp2;go_end0;exact ⟨rfl, _, _, _, _, _, HFIN.out, .inl HS.out.symm⟩
 ·have HS : Hid (iMalloc F S ka kb = S.ends 4) := by show _ = _; unfold iMalloc; rw [if_neg hd]
  go_wp2_with fail
  all_goals
   refine (idraw_no F wB vT vF V col S wb HRb.out hd).mono ?_;rintro e1 w1 ⟨rfl, hR1, hk1⟩;have HR1 := hide2 hR1;clear hR1 hk1 x0 x1 x2 y0 y1;go_wp2;go_end0;exact ⟨rfl, _, _, _, _, _, HR1.out, .inl HS.out.symm⟩
end
end Go.Proofs.YtjikemhmnkckcabGreat
