import Derived.Test.YtjikemhmnkckcabGreatJ35
namespace Go.Proofs.YtjikemhmnkckcabGreat
open Go.RowKit
attribute [local go_sem ↓] Go.wp_at_zero Go.wp_at_succ
section
variable (F : IFix) (wB : World) (vT vF : Value) (V : List Value) (col : Nat → Nat) (S : IS) (w : World)
set_option maxRecDepth 100000 in
set_option maxHeartbeats 12800000 in
theorem imove_any (h : IRep F wB w vT vF V col S) (hg : IGood F S) (hen : S.en = 0) (ka kb kc : Nat) (hka : ka < 8) (hkb : kb < 8) (hkc : kc < 8) (hlen : S.T.length ≤ 900000) :
 Calls Tryz.prog 104 #[.pointer (some ⟨F.mb, 0, none⟩), .agg #[.int .i64 19, .int .i64 (ka : Int), .int .i64 (kb : Int), .int .i64 (kc : Int)]] w fun e w' => e = .returned (.tuple #[]) ∧ IDone F wB w' (iMove S ka kb kc) := by
 obtain ⟨wa, hwa⟩ : ∃ wa, wa = w.alloc (.cells #[.int .i64 19, .int .i64 (ka : Int), .int .i64 (kb : Int), .int .i64 (kc : Int)] 60) := ⟨_, rfl⟩
 have HB : Hid (Below w.heap.size w wa) := by show Below _ _ _; rw [hwa]; exact (Below.refl _ _).alloc (Nat.le_refl _) _
 have HX : Hid (Blk wa w.heap.size 60 [.int .i64 19, .int .i64 (ka : Int), .int .i64 (kb : Int), .int .i64 (kc : Int)]) := by show Blk _ _ _ _; rw [hwa]; exact Blk.alloc _ _ _
 have HRa := hide2 (h.under HB.out);have HG := hide2 hg;have HOW : Hid (∀ b, IOwn F.mb vT vF V b → b < w.heap.size) := fun b hb => h.own_lt hb
 have hl2 := hg.len;have x3 := HX.out.cell (j := 3) rfl;have kaI : (ka : Int) < 8 := by omega
 have kbI : (kb : Int) < 8 := by omega
 have hmbw := HOW.out F.mb (.inl rfl);have hbs := HB.out.size;have hnm : w.heap.size ≠ F.mb := by omega
 have hnm' : F.mb ≠ w.heap.size := by omega
 clear h hg;obtain ⟨n, hn⟩ : ∃ n, n = (iv S.r kc).n := ⟨_, rfl⟩
 have HN := hide2 hn;go_enter Tryz.func104, Tryz.ntmps104;go_upto_region 1 with (fail);rw [← hwa];clear hwa
 go_wp2_with fail
 refine (inumber_any F wB vT vF V col S wa HRa.out kc hkc).mono ?_;rintro e1 w1 ⟨rfl, hR1, hk1⟩;have HX1 := hide2 (hk1.blk HX.out hnm);rw [← hn];clear hn x3 HX HRa
 by_cases qc : (iv S.r kc).of = 0
 ·have hSn : S.num kc = S := if_pos qc;rw [hSn] at hR1;have HR1 := hide2 hR1;clear hR1 hk1 hSn;have c26 := HR1.out.c26;have f26 := HR1.out.blk.frozen 26;rw [hen] at c26
  have HS : Hid (iMove S ka kb kc = if n = 0 then S else if n < 0 ∨ 65536 < n then S.ends 102 else if iFine S.T (iv S.r kb) n = true ∧ iFine S.T (iv S.r ka) n = true then S.turn (iv S.r ka).of (iPut (S.th (iv S.r ka).of).cells (iv S.r ka).n.toNat (iPart (S.th (iv S.r kb).of).cells (iv S.r kb).n.toNat n.toNat)) else S.ends 102) := by
   show _ = _;unfold iMove;rw [if_neg (fun x => x qc), ← HN.out]
  clear qc HN
  by_cases q0 : n = 0
  ·have HS1 : Hid (iMove S ka kb kc = S) := by show _ = _; rw [HS.out, if_pos q0]
   have qb : (n == 0) = true := by simp [q0]
   clear q0 HS;go_wp2
   (try simp only [Exit.inBlock, Exit.then])
   refine bodyPost_ret (results_none rfl _ _ _) rfl ?_;exact ⟨rfl, _, _, _, _, _, HR1.out, .inl HS1.out.symm⟩
  ·have qb : (n == 0) = false := by simp [q0]
   rw [if_neg q0] at HS
   by_cases q1 : n < 0 ∨ 65536 < n
   ·have HS1 : Hid (iMove S ka kb kc = S.ends 102) := by show _ = _; rw [HS.out, if_pos q1]
    have HR2 := hide2 (HR1.out.setEn 101);clear q0 HS
    rcases q1 with q1 | q1
    ·go_wp2
     (try simp only [Exit.inBlock, Exit.then])
     refine bodyPost_ret (results_none rfl _ _ _) rfl ?_;exact ⟨rfl, _, _, _, _, _, HR2.out, .inr ⟨by rw [HS1.out]; rfl, .inl rfl⟩⟩
    ·have q2 : ¬ n < 0 := by omega
     go_wp2
     (try simp only [Exit.inBlock, Exit.then])
     refine bodyPost_ret (results_none rfl _ _ _) rfl ?_;exact ⟨rfl, _, _, _, _, _, HR2.out, .inr ⟨by rw [HS1.out]; rfl, .inl rfl⟩⟩
   ·rw [if_neg q1] at HS;have n1 : 1 ≤ n := by omega
    have n2 : n ≤ 65536 := by omega
    have n3 : ¬ n < 0 := by omega
    have n4 : ¬ 65536 < n := by omega
    clear q0 q1;have x2 := HX1.out.cell (j := 2) rfl;have c7 := HR1.out.cOf kb hkb;have c8 := HR1.out.cN kb hkb;obtain ⟨fo, hfo⟩ : ∃ v, v = (iv S.r kb).of := ⟨_, rfl⟩
    obtain ⟨fn, hfn⟩ : ∃ v, v = (iv S.r kb).n := ⟨_, rfl⟩
    rw [← hfo] at c7;rw [← hfn] at c8;have HEfo : Hid (iv S.r kb = ⟨fo, fn⟩) := by show _ = _; rw [hfo, hfn]
    clear hfo hfn;have hxl5 := HX1.out.lt;go_upto_region 5 with (fail)
    go_region_held3 (fun w' => w'.cell? ⟨w.heap.size, 2, none⟩ = some (.int .i64 (kb : Int)) ∧ w'.cell? ⟨F.mb, 7 + kb * 2, none⟩ = some (.int .i64 (fo : Int)) ∧ w'.cell? ⟨F.mb, 7 + kb * 2 + 1, none⟩ = some (.int .i64 fn)) (go_keep) (first | fail)
    rename_i hold
    clear hold;obtain ⟨w2, hw5⟩ : ∃ v, v = (w1.alloc (.cells #[.int .i64 (fo : Int), .int .i64 fn] 107)).drew := ⟨_, rfl⟩
    rw [← hw5];have HB5 : Hid (Below w1.heap.size w1 w2) := by show Below _ _ _; rw [hw5]; exact ((Below.refl _ _).alloc (Nat.le_refl _) _).drew
    have HF2 : Hid (Blk w2 w1.heap.size 107 [.int .i64 (fo : Int), .int .i64 fn]) := by show Blk _ _ _ _; rw [hw5]; exact Blk.alloc _ _ _
    have HX5 := hide2 (HX1.out.below HB5.out hxl5);have HR5 := hide2 (HR1.out.under HB5.out);clear c26 f26 x2 c7 c8 hw5 hxl5;clear HX1 HR1;have x1 := HX5.out.cell (j := 1) rfl;have c7 := HR5.out.cOf ka hka;have c8 := HR5.out.cN ka hka;obtain ⟨tz, htz⟩ : ∃ v, v = (iv S.r ka).of := ⟨_, rfl⟩
    obtain ⟨tn, htn⟩ : ∃ v, v = (iv S.r ka).n := ⟨_, rfl⟩
    rw [← htz] at c7;rw [← htn] at c8;have HEtz : Hid (iv S.r ka = ⟨tz, tn⟩) := by show _ = _; rw [htz, htn]
    clear htz htn;have hxl6 := HX5.out.lt;go_upto_region 6 with (fail)
    go_region_held3 (fun w' => w'.cell? ⟨w.heap.size, 1, none⟩ = some (.int .i64 (ka : Int)) ∧ w'.cell? ⟨F.mb, 7 + ka * 2, none⟩ = some (.int .i64 (tz : Int)) ∧ w'.cell? ⟨F.mb, 7 + ka * 2 + 1, none⟩ = some (.int .i64 tn)) (go_keep) (first | fail)
    rename_i hold
    clear hold;obtain ⟨w3, hw6⟩ : ∃ v, v = (w2.alloc (.cells #[.int .i64 (tz : Int), .int .i64 tn] 107)).drew := ⟨_, rfl⟩
    rw [← hw6];have HB6 : Hid (Below w2.heap.size w2 w3) := by show Below _ _ _; rw [hw6]; exact ((Below.refl _ _).alloc (Nat.le_refl _) _).drew
    have HT3 : Hid (Blk w3 w2.heap.size 107 [.int .i64 (tz : Int), .int .i64 tn]) := by show Blk _ _ _ _; rw [hw6]; exact Blk.alloc _ _ _
    have HF3 := hide2 (HF2.out.below HB6.out HF2.out.lt);have HX6 := hide2 (HX5.out.below HB6.out hxl6);have HR6 := hide2 (HR5.out.under HB6.out);clear x1 c7 c8 hw6 hxl6;clear HX5 HR5 HF2;have hfv : fo < S.T.length ∧ -9223372036854775808 ≤ fn ∧ fn ≤ 9223372036854775807 := by have := HG.out.rv kb hkb; rw [HEfo.out] at this; exact this
    have htv : tz < S.T.length ∧ -9223372036854775808 ≤ tn ∧ tn ≤ 9223372036854775807 := by have := HG.out.rv ka hka; rw [HEtz.out] at this; exact this
    have a0 := HF3.out.cell (j := 0) rfl;have a1 := HF3.out.cell (j := 1) rfl
    go_wp2_with fail
    refine (ireach_any F wB vT vF V col S w3 HR6.out HG.out ⟨fo, fn⟩ hfv.1 hfv.2.1 hfv.2.2 (by omega) n n1 n2).mono ?_;rintro e4 w4 ⟨⟨r, rfl, hs⟩, hb4⟩;have HR4 := hide2 (HR6.out.under hb4);have HF4 := hide2 (HF3.out.below hb4 HF3.out.lt);have HT4 := hide2 (HT3.out.below hb4 HT3.out.lt);clear a0 a1 hb4 HR6 HF3 HT3 HX6
    rcases hs with ⟨ho, rfl⟩ | ⟨ho, hr⟩
    rotate_left
    ·have HS1 : Hid (iMove S ka kb kc = S.ends 102) := by show _ = _; rw [HS.out, HEfo.out, HEtz.out, if_neg (fun x => by rw [ho] at x; exact absurd x.1 (by decide))]
     clear HS ho
     go_wp2_with fail
     refine (istop_yes F wB vT vF V col S w4 HR4.out r hr).mono ?_;rintro e2 w2 ⟨rfl, hR2, -⟩;have HR2 := hide2 hR2;clear hR2;go_wp2
     (try simp only [Exit.inBlock, Exit.then])
     refine bodyPost_ret (results_none rfl _ _ _) rfl ?_;exact ⟨rfl, _, _, _, _, _, HR2.out, .inr ⟨by rw [HS1.out]; rfl, hr⟩⟩
    ·have HOF := hide2 ho;clear ho
     go_wp2_with fail
     refine (istop_no F wB vT vF V col S w4 HR4.out).mono ?_;rintro e5 w5 ⟨rfl, hR5, hb5⟩;have HR5 := hide2 hR5;have HF5 := hide2 (HF4.out.below hb5 HF4.out.lt);have HT5 := hide2 (HT4.out.below hb5 HT4.out.lt);clear hR5 hb5 HR4 HF4 HT4;have a0 := HT5.out.cell (j := 0) rfl;have a1 := HT5.out.cell (j := 1) rfl
     go_wp2_with fail
     refine (ireach_any F wB vT vF V col S w5 HR5.out HG.out ⟨tz, tn⟩ htv.1 htv.2.1 htv.2.2 (by omega) n n1 n2).mono ?_;rintro e6 w6 ⟨⟨r, rfl, hs⟩, hb6⟩;have HR6 := hide2 (HR5.out.under hb6);have HF6 := hide2 (HF5.out.below hb6 HF5.out.lt);have HT6 := hide2 (HT5.out.below hb6 HT5.out.lt);clear a0 a1 hb6 HR5 HF5 HT5
     rcases hs with ⟨ho, rfl⟩ | ⟨ho, hr⟩
     rotate_left
     ·have HS1 : Hid (iMove S ka kb kc = S.ends 102) := by show _ = _; rw [HS.out, HEfo.out, HEtz.out, if_neg (fun x => by rw [ho] at x; exact absurd x.2 (by decide))]
      clear HS ho
      go_wp2_with fail
      refine (istop_yes F wB vT vF V col S w6 HR6.out r hr).mono ?_;rintro e2 w2 ⟨rfl, hR2, -⟩;have HR2 := hide2 hR2;clear hR2;go_wp2
      (try simp only [Exit.inBlock, Exit.then])
      refine bodyPost_ret (results_none rfl _ _ _) rfl ?_;exact ⟨rfl, _, _, _, _, _, HR2.out, .inr ⟨by rw [HS1.out]; rfl, hr⟩⟩
     ·have HOT := hide2 ho;clear ho;have HS1 : Hid (iMove S ka kb kc = S.turn tz (iPut (S.th tz).cells tn.toNat (iPart (S.th fo).cells fn.toNat n.toNat))) := by show _ = _; rw [HS.out, HEfo.out, HEtz.out, if_pos ⟨HOF.out, HOT.out⟩]
      have hf := of_decide_eq_true HOF.out;have ht := of_decide_eq_true HOT.out;have f1 : 1 ≤ fo := hf.1;have f2 : 0 ≤ fn := hf.2.2.1;have f3 : fn ≤ ((S.T.getD fo IT.no).cells.length : Int) - n := hf.2.2.2;have t1 : 1 ≤ tz := ht.1;have t2 : 0 ≤ tn := ht.2.2.1;have t3 : tn ≤ ((S.T.getD tz IT.no).cells.length : Int) - n := ht.2.2.2;have fs := HG.out.sm fo;have ts := HG.out.sm tz;clear hf ht HOF HOT HS HEfo HEtz
      go_wp2_with fail
      refine (istop_no F wB vT vF V col S w6 HR6.out).mono ?_;rintro e7 w7 ⟨rfl, hR7, hb7⟩;have HF7 := hide2 (HF6.out.below hb7 HF6.out.lt);have HT7 := hide2 (HT6.out.below hb7 HT6.out.lt);have HR7 := hide2 hR7;clear hb7 hR7 HR6 HF6 HT6;obtain ⟨k, rfl⟩ : ∃ k : Nat, n = (k : Int) := ⟨n.toNat, by omega⟩
      obtain ⟨fm, rfl⟩ : ∃ fm : Nat, fn = (fm : Int) := ⟨fn.toNat, by omega⟩
      obtain ⟨tm, rfl⟩ : ∃ tm : Nat, tn = (tm : Int) := ⟨tn.toNat, by omega⟩
      rw [Int.toNat_natCast, Int.toNat_natCast, Int.toNat_natCast] at HS1;obtain ⟨mc, hmc, hmk⟩ := make_cells k (by omega);go_upto_region 14 with (fail);obtain ⟨w8, hw8⟩ : ∃ v, v = w7.alloc (.cells mc.toArray 115) := ⟨_, rfl⟩
      rw [← hw8];have HB8 : Hid (Below w7.heap.size w7 w8) := by show Below _ _ _; rw [hw8]; exact (Below.refl _ _).alloc (Nat.le_refl _) _
      have HH8 : Hid (Blk w8 w7.heap.size 115 ((List.replicate k IC.no).flatMap icCells)) := by show Blk _ _ _ _; rw [hw8, ← hmc.out]; exact Blk.alloc _ _ _
      have HF8 := hide2 (HF7.out.below HB8.out HF7.out.lt);have HT8 := hide2 (HT7.out.below HB8.out HT7.out.lt);have HR8 := hide2 (HR7.out.under HB8.out);have hmb7 := HR7.out.blk.lt;have HLT : Hid (∀ b, IOwn F.mb vT vF V b → b < w7.heap.size) := fun b hb => HR7.out.own_lt hb
      have hf7 := HF7.out.lt;have ht7 := HT7.out.lt;clear hw8 hmk HR7 HF7 HT7;obtain ⟨gt, cap, e5, hcap, hmax, hgl, -, hcell⟩ := HR8.out.things (by omega);have c5 := HR8.out.c5;rw [e5] at c5;obtain ⟨-, -, -, d3⟩ := hcell fo hfv.1;obtain ⟨-, -, -, o3⟩ := hcell tz htv.1;obtain ⟨cbf, ef, hbf, -, hcf2⟩ := (HR8.out.vn fo f1 hfv.1).ex;obtain ⟨cbt, et, hbt, -, hct2⟩ := (HR8.out.vn tz t1 htv.1).ex;rw [ef] at d3;rw [et] at o3;have hg7 : gt < w7.heap.size := HLT.out gt (.inr (.inl (by rw [e5]; rfl)));have hcf7 : cbf < w7.heap.size := HLT.out cbf (.inr (.inr (.inr ⟨fo, by rw [ef]; rfl⟩)));have hct7 : cbt < w7.heap.size := HLT.out cbt (.inr (.inr (.inr ⟨tz, by rw [et]; rfl⟩)))
      have hgc : gt ≠ cbt := fun e => by
       have h1 := HR8.out.colT (b := gt) (by rw [e5]; rfl);rw [e, hct2] at h1; omega
      have hmc2 : F.mb ≠ cbt := fun e => by
       have h1 := HR8.out.sep.mb;rw [e, hct2] at h1; omega
      have HTRN := hide2 (fun (w' : World) (w0 : World) (h0 : IRep F wB w0 vT vF V col S) (c : List IC) hc hk hb => h0.turnC (w' := w') tz t1 htv.1 c hc cbt et hk hb);obtain ⟨cf, hcfe⟩ : ∃ c, c = (S.T.getD fo IT.no).cells := ⟨_, rfl⟩
      obtain ⟨ct, hcte⟩ : ∃ c, c = (S.T.getD tz IT.no).cells := ⟨_, rfl⟩
      have HCF : Hid ((S.th fo).cells = cf) := hcfe.symm;have HCT : Hid ((S.th tz).cells = ct) := hcte.symm;have HCT2 : Hid ((S.T.getD tz IT.no).cells = ct) := hcte.symm;rw [← hcfe] at d3 hbf f3 fs;rw [← hcte] at o3 hbt t3 ts;have HBF := hide2 hbf;have HBT := hide2 hbt;clear hcfe hcte hcell e5 ef et hbf hbt;obtain ⟨cs, hcs⟩ : ∃ cs, cs = (iPart cf fm k).flatMap icCells := ⟨_, rfl⟩
      have HCS := hide2 hcs;have hpl : (iPart cf fm k).length = k := by unfold iPart; rw [List.length_take, List.length_drop]; omega
      have hcl : cs.length = Nat.min k k * 3 := by rw [hcs, ic_len, hpl, show Nat.min k k = k from Nat.min_self k]
      have HCELL : Hid (∀ j u, cs[j]? = some u → w8.drew.cell? ((⟨cbf, fm * 3, none⟩ : Addr).add j) = some u) := fun j u hj => by
       rw [World.cell?_drew, add_lit];exact HBF.out.cell (ic_part cf fm k j u (by rw [← hcs]; exact hj))
      have HONE : Hid (∀ u ∈ cs, u.oneCell' = true) := by show ∀ u ∈ cs, _; rw [hcs]; exact ic_one _
      have hfit : 0 + cs.length ≤ ((List.replicate k IC.no).flatMap icCells).length := by rw [ic_len, List.length_replicate, hcl, show Nat.min k k = k from Nat.min_self k]; omega
      have hfit2 : tm * 3 + cs.length ≤ (ct.flatMap icCells).length := by rw [ic_len, hcl, show Nat.min k k = k from Nat.min_self k]; omega
      have HHD : Hid (Blk w8.drew w7.heap.size 115 ((List.replicate k IC.no).flatMap icCells)) := HH8.out;have a0 := HF8.out.cell (j := 0) rfl;have a1 := HF8.out.cell (j := 1) rfl;have fI : (fo : Int) < (S.T.length : Int) := by omega
      have tI : (tz : Int) < (S.T.length : Int) := by omega
      have fx : w2.heap.size ≠ w7.heap.size := by omega
      have fy : w1.heap.size ≠ w7.heap.size := by omega
      unfold maxLen at hmax;clear hcs;have hfl : (fm : Int) + (k : Int) ≤ (cf.length : Int) := by omega
      have htl : (tm : Int) + (k : Int) ≤ (ct.length : Int) := by omega
      have hfx : (fm : Int) < (cf.length : Int) := by omega
      have htx : (tm : Int) < (ct.length : Int) := by omega
      have hfN : fm + k ≤ cf.length := by omega
      have htN : tm + k ≤ ct.length := by omega
      have hfM : fm < cf.length := by omega
      have htM : tm < ct.length := by omega
      obtain ⟨fe, hfe⟩ : ∃ fe, fe = fm + k := ⟨_, rfl⟩
      obtain ⟨te, hte⟩ : ∃ te, te = tm + k := ⟨_, rfl⟩
      have wf : IntKind.i64.wrap ((fm : Int) + (k : Int)) = (fe : Int) := by rw [IntKind.wrap_i64]; omega
      have wt : IntKind.i64.wrap ((tm : Int) + (k : Int)) = (te : Int) := by rw [IntKind.wrap_i64]; omega
      have p1 : fe ≤ cf.length := by omega
      have p2 : te ≤ ct.length := by omega
      have p3 : fm ≤ fe := by omega
      have p4 : tm ≤ te := by omega
      have p5 : ¬ cf.length = fm := by omega
      have p6 : ¬ ct.length = tm := by omega
      have hcl1 : cs.length = Nat.min (fe - fm) k * 3 := by rw [hcl]; congr 2; omega
      have hcl2 : cs.length = Nat.min k (te - tm) * 3 := by rw [hcl]; congr 2; omega
      have HFE := hide2 hfe;have HTE := hide2 hte;clear hfe hte hfx htx hfN htN hfM htM hfl htl
      go_region_held3 (fun w' => w'.cell? ⟨F.mb, 5, none⟩ = some (.slice (some ⟨gt, 0, none⟩) S.T.length cap) ∧ w'.cell? ⟨w1.heap.size, 0, none⟩ = some (.int .i64 (fo : Int)) ∧ w'.cell? ⟨w1.heap.size, 1, none⟩ = some (.int .i64 (fm : Int)) ∧ w'.cell? ⟨gt, fo * 4 + 3, none⟩ = some (.slice (some ⟨cbf, 0, none⟩) cf.length cf.length)) (go_keep)
       (first | (refine step_copy_keepW (by rfl) _ _ _ _ (by rfl) 115 3 Tryz.underlying111 size_cell w7.heap.size 0 k k ⟨cbf, fm * 3, none⟩ (fe - fm) (cf.length - fm) (by rfl) (by rfl) ((List.replicate k IC.no).flatMap icCells) 115 HHD.out cs hcl1 HCELL.out hfit HONE.out ?_; intro w9 hb9 hk9; have c5' : w9.cell? ⟨F.mb, 5, none⟩ = some (.slice (some ⟨gt, 0, none⟩) S.T.length cap) := (World.cell?_of_block (w := w8.drew) (hk9.out.block F.mb HR8.out.blk.lt (by omega))).trans c5; have a0' : w9.cell? ⟨w1.heap.size, 0, none⟩ = some (.int .i64 (fo : Int)) := (World.cell?_of_block (w := w8.drew) (hk9.out.block w1.heap.size HF8.out.lt fy)).trans a0; have a1' : w9.cell? ⟨w1.heap.size, 1, none⟩ = some (.int .i64 (fm : Int)) := (World.cell?_of_block (w := w8.drew) (hk9.out.block w1.heap.size HF8.out.lt fy)).trans a1; have d3' : w9.cell? ⟨gt, fo * 4 + 3, none⟩ = some (.slice (some ⟨cbf, 0, none⟩) cf.length cf.length) := (World.cell?_of_block (w := w8.drew) (hk9.out.block gt hgl (by omega))).trans d3))
      have HK9 : Hid (Kept w8 w9 (· = w7.heap.size)) := ⟨hk9.out.os, hk9.out.tape, hk9.out.output, hk9.out.size, hk9.out.block⟩
      have HH9 : Hid (Blk w9 w7.heap.size 115 cs) := by
       have e : splice ((List.replicate k IC.no).flatMap icCells) 0 cs = cs := by
        unfold splice;rw [List.take_zero, List.nil_append, List.drop_eq_nil_of_le (by rw [ic_len, List.length_replicate, hcl, show Nat.min k k = k from Nat.min_self k]; omega), List.append_nil]
       show Blk _ _ _ _;rw [← e];exact hb9.out
      have HR9 := hide2 (HR8.out.aside HK9.out (fun b e => ⟨fun x => by have := HLT.out b x; omega, by have := HR8.out.hm; omega⟩));have HT9 := hide2 (HK9.out.blk HT8.out (by omega));have HBT9 := hide2 (HK9.out.blk HBT.out (by omega));have c59 : w9.cell? ⟨F.mb, 5, none⟩ = some (.slice (some ⟨gt, 0, none⟩) S.T.length cap) := c5';have o39 : w9.cell? ⟨gt, tz * 4 + 3, none⟩ = some (.slice (some ⟨cbt, 0, none⟩) ct.length ct.length) := (World.cell?_of_block (w := w8) (HK9.out.block gt hgl (by omega))).trans o3;clear c5' a0' a1' d3' hb9 hk9 c5 d3 o3 a0 a1 HH8 HHD HR8 HT8 HF8 HBF HBT HCELL;have b0 := HT9.out.cell (j := 0) rfl;have b1 := HT9.out.cell (j := 1) rfl
      have HCELL : Hid (∀ j u, cs[j]? = some u → w9.drew.cell? ((⟨w7.heap.size, 0, none⟩ : Addr).add j) = some u) := fun j u hj => by
       rw [World.cell?_drew, add_lit, Nat.zero_add];exact HH9.out.cell hj
      have HBTD : Hid (Blk w9.drew cbt 115 (ct.flatMap icCells)) := HBT9.out;have hgl9 : gt < w9.heap.size := Nat.lt_of_lt_of_le hgl HK9.out.size;have ty : w2.heap.size ≠ cbt := HT9.out.ne HBT9.out (by decide)
      go_wp2_with fail
      go_region_held3 (fun w' => w'.cell? ⟨F.mb, 5, none⟩ = some (.slice (some ⟨gt, 0, none⟩) S.T.length cap) ∧ w'.cell? ⟨w2.heap.size, 0, none⟩ = some (.int .i64 (tz : Int)) ∧ w'.cell? ⟨w2.heap.size, 1, none⟩ = some (.int .i64 (tm : Int)) ∧ w'.cell? ⟨gt, tz * 4 + 3, none⟩ = some (.slice (some ⟨cbt, 0, none⟩) ct.length ct.length)) (go_keep)
       (first | (refine step_copy_keepW (by rfl) _ _ _ _ (by rfl) 115 3 Tryz.underlying111 size_cell cbt (tm * 3) (te - tm) (ct.length - tm) ⟨w7.heap.size, 0, none⟩ k k (by rfl) (by rfl) (ct.flatMap icCells) 115 HBTD.out cs hcl2 HCELL.out hfit2 HONE.out ?_; intro w10 hb10 hk10; have c5' : w10.cell? ⟨F.mb, 5, none⟩ = some (.slice (some ⟨gt, 0, none⟩) S.T.length cap) := (World.cell?_of_block (w := w9.drew) (hk10.out.block F.mb HR9.out.blk.lt hmc2)).trans c59; have b0' : w10.cell? ⟨w2.heap.size, 0, none⟩ = some (.int .i64 (tz : Int)) := (World.cell?_of_block (w := w9.drew) (hk10.out.block w2.heap.size HT9.out.lt ty)).trans b0; have b1' : w10.cell? ⟨w2.heap.size, 1, none⟩ = some (.int .i64 (tm : Int)) := (World.cell?_of_block (w := w9.drew) (hk10.out.block w2.heap.size HT9.out.lt ty)).trans b1; have o3' : w10.cell? ⟨gt, tz * 4 + 3, none⟩ = some (.slice (some ⟨cbt, 0, none⟩) ct.length ct.length) := (World.cell?_of_block (w := w9.drew) (hk10.out.block gt hgl9 hgc)).trans o39))
      have HK10 : Hid (Kept w9 w10 (· = cbt)) := ⟨hk10.out.os, hk10.out.tape, hk10.out.output, hk10.out.size, hk10.out.block⟩
      have HB10 : Hid (Blk w10 cbt 115 ((iPut ct tm (iPart cf fm k)).flatMap icCells)) := by
       show Blk _ _ _ _;rw [← splice_put, ← HCS.out];exact hb10.out
      have HT10 := hide2 (HTRN.out w10 w9 HR9.out (iPut ct tm (iPart cf fm k)) (by rw [iPut_len _ _ _ (by rw [hpl]; omega), HCT2.out]) HK10.out HB10.out);clear c5' b0' b1' o3' hb10 hk10;go_wp2;go_end0;exact ⟨rfl, _, _, _, _, _, HT10.out.1, .inl (by rw [HS1.out, HCF.out, HCT.out])⟩
 ·have hSn : S.num kc = S.ends 102 := if_neg qc;rw [hSn] at hR1;have HR1 := hide2 hR1;clear hR1 hk1 hSn;have c26 : w1.cell? ⟨F.mb, 26, none⟩ = some (.int .i64 102) := HR1.out.c26;have HS1 : Hid (iMove S ka kb kc = S.ends 102) := by show _ = _; unfold iMove; rw [if_pos qc]
  clear qc HN;go_wp2
  (try simp only [Exit.inBlock, Exit.then])
  refine bodyPost_ret (results_none rfl _ _ _) rfl ?_;exact ⟨rfl, _, _, _, _, _, HR1.out, .inl HS1.out.symm⟩
end
end Go.Proofs.YtjikemhmnkckcabGreat
