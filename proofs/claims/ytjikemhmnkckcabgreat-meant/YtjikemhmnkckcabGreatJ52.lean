import Derived.Test.YtjikemhmnkckcabGreatJ51
namespace Go.Proofs.YtjikemhmnkckcabGreat
open Go.RowKit
attribute [local go_sem ↓] Go.wp_at_zero Go.wp_at_succ
set_option maxRecDepth 100000 in
set_option maxHeartbeats 6400000 in
theorem ideal_any (st rest : Int) (a : Option Addr) (cap : Nat) (cls : List (Int × Int)) (d : ByteArray) (ia : Option Addr) (icap : Nat) (code : List Ins) (inp : ByteArray) (ds : List Int) (fuel : Int) (w : World) (h : CRow w a cap cls) (hi : IRow w ia icap code) (hv : Cf.Valid st rest cls) (hd : (d.size : Int) ≤ 16 * st) (hcode : ∀ i, i < code.length → ∃ n, (code.getD i Ins.no).may n = true) (hcl : code.length ≤ 255) (hin : (inp.size : Int) ≤ 9223372036854775807) (hnd : (ds.length : Int) ≤ 9223372036854775807) :
 Calls Tryz.prog 25 #[.agg #[.int .i64 st, .int .i64 rest, .slice a cls.length cap, .string d, .slice ia code.length icap], .string inp, .int .i64 (ds.length : Int), .int .i64 fuel] w fun e w' => ∃ S' : IS, e = .returned (.agg (outI S').toArray) ∧ Below w.heap.size w w' ∧ IMeans S' (mRun inp ds code (mFuel fuel) 4097 (mBegin st rest cls d)) := by
 obtain ⟨nd, hnl⟩ : ∃ nd, nd = ds.length := ⟨_, rfl⟩
 rw [← hnl] at hnd ⊢;have hst0 := hv.st0;have hst1 := hv.st1;obtain ⟨wB, hwB⟩ : ∃ wB, wB = (w.alloc (.cells #[.int .i64 st, .int .i64 rest, .slice a cls.length cap, .string d, .slice ia code.length icap] 39)).alloc (.cells #[.int .i64 0, .int .i64 0, .int .i64 0, .int .i64 0, .int .i64 0, .string ⟨#[]⟩, .int .i64 0, .int .i64 0, .int .i64 0, .int .i64 0, .int .i64 0, .int .i64 0, .int .i64 0, .int .i64 0, .int .i64 0, .slice none 0 0] 28) := ⟨_, rfl⟩
 have hsB : wB.heap.size = w.heap.size + 1 + 1 := by rw [hwB]; simp
 have HBB : Hid (Below w.heap.size w wB) := by show Below _ _ _; rw [hwB]; exact ((Below.refl _ _).alloc (Nat.le_refl _) _).alloc (by simp) _
 have HP : Hid (Blk wB w.heap.size 39 [.int .i64 st, .int .i64 rest, .slice a cls.length cap, .string d, .slice ia code.length icap]) := by show Blk _ _ _ _; rw [hwB]; exact (Below.heap_alloc _ _ _ (by simp)).trans (heap_alloc_new w _)
 have HO : Hid (Blk wB (w.heap.size + 1) 28 [.int .i64 0, .int .i64 0, .int .i64 0, .int .i64 0, .int .i64 0, .string ⟨#[]⟩, .int .i64 0, .int .i64 0, .int .i64 0, .int .i64 0, .int .i64 0, .int .i64 0, .int .i64 0, .int .i64 0, .int .i64 0, .slice none 0 0]) := by
  show Blk _ _ _ _;rw [hwB];have := heap_alloc_new (w.alloc (.cells #[.int .i64 st, .int .i64 rest, .slice a cls.length cap, .string d, .slice ia code.length icap] 39)) (.cells #[.int .i64 0, .int .i64 0, .int .i64 0, .int .i64 0, .int .i64 0, .string ⟨#[]⟩, .int .i64 0, .int .i64 0, .int .i64 0, .int .i64 0, .int .i64 0, .int .i64 0, .int .i64 0, .int .i64 0, .int .i64 0, .slice none 0 0] 28);rw [World.size_alloc] at this; exact this
 have HC := hide2 (h.below HBB.out);have HI := hide2 (hi.below HBB.out);have HV := hide2 hv;obtain ⟨n, hn⟩ : ∃ n : Nat, 16 * st = (n : Int) := ⟨(16 * st).toNat, by omega⟩
 obtain ⟨F, hF⟩ : ∃ F : IFix, F = ⟨w.heap.size + 1 + 1, st, rest, a, cap, cls, d, ia, icap, code, inp, nd⟩ := ⟨_, rfl⟩
 have HF := hide2 hF
 have HHEAD : Hid (Head F (iBeg (dataCells d n d.size)) (mBegin st rest cls d)) := by
  obtain ⟨cs, hcs⟩ := icls_some st cls;refine head_start hv hcs F (by rw [hF]) (by rw [hF]) (by rw [hF]) d hd (dataCells d n d.size) (by rw [dataCells_len]; omega) (fun t ht => ?_) (Rpt.only 0);rw [dataCells_len] at ht;rw [dataCells_getD d n d.size t ht]
  by_cases e : t < d.size
  ·rw [if_pos e]
  ·rw [if_neg e]
   have hz : byteAt d t = 0 := by
    unfold byteAt;rw [List.getElem?_eq_none (by simp; omega)]
   rw [hz]; rfl
 have HCODE : Hid (∀ i, i < F.code.length → ∃ n, (F.code.getD i Ins.no).may n = true) := by rw [hF]; exact hcode
 obtain ⟨Sf, hSf⟩ : ∃ Sf, Sf = iRun F (mFuel fuel) 4097 (iBeg (dataCells d n d.size)) := ⟨_, rfl⟩
 have HSF := hide2 hSf;have HFD : Hid (ds.length = F.nd) := by rw [hF]; exact hnl.symm
 have HEND : Hid (∀ S' : IS, (S' = Sf ∨ (Sf.en = 102 ∧ (S'.en = 101 ∨ S'.en = 102))) → IMeans S' (mRun inp ds code (mFuel fuel) 4097 (mBegin st rest cls d))) := fun S' hS => by
  rcases hS with rfl | ⟨-, h1 | h1⟩
  ·have := like_run ds HFD.out HCODE.out (mFuel fuel) 4097 (iBeg (dataCells d n d.size)) (mBegin st rest cls d) HHEAD.out rfl;have h5 := irun_en5 (F := F) (mFuel fuel) 4097 (iBeg (dataCells d n d.size)) (by show (0 : Int) ≠ 5; decide);rw [← hSf] at this h5;have f1 : F.inp = inp := by rw [hF]
   have f2 : F.code = code := by rw [hF]
   rw [f1, f2] at this
   rcases this with h1 | h1
   ·exact .inr (.inl h1)
   ·exact .inr (.inr ⟨h1, h5⟩)
  ·exact .inl h1
  ·exact .inr (.inl h1)
 have HMF : Hid (∀ s : Nat, s ≤ 4096 → (mFuel fuel ≤ (s : Int) ↔ 4096 ≤ (s : Int) ∨ fuel ≤ (s : Int))) := fun s hs => by unfold mFuel; split <;> omega
 clear hSf hcode hnl;have p0 := HP.out.cell (j := 0) rfl;have p1 := HP.out.cell (j := 1) rfl;have p2 := HP.out.cell (j := 2) rfl;have p3 := HP.out.cell (j := 3) rfl;have p4 := HP.out.cell (j := 4) rfl;obtain ⟨mc, hmc, hmk⟩ := make_cells n (by omega);clear h hi hv hF;go_enter Tryz.func25, Tryz.ntmps25;go_upto_region 1 with (fail);rw [← hwB];clear hwB;go_upto_region 2 with (fail);obtain ⟨w1, hw1⟩ : ∃ v, v = wB.alloc (.cells #[.int .i64 st, .int .i64 rest, .slice a cls.length cap, .string d, .slice ia code.length icap, .slice none 0 0, .slice none 0 0, .int .i64 0, .int .i64 0, .int .i64 0, .int .i64 0, .int .i64 0, .int .i64 0, .int .i64 0, .int .i64 0, .int .i64 0, .int .i64 0, .int .i64 0, .int .i64 0, .int .i64 0, .int .i64 0, .int .i64 0, .int .i64 0, .string inp, .int .i64 (nd : Int), .int .i64 0, .int .i64 0, .int .i64 0, .int .i64 0, .int .i64 0, .int .i64 0, .string ⟨#[]⟩, .int .i64 0, .int .i64 0, .int .i64 0, .int .i64 0, .int .i64 0, .int .i64 0, .int .i64 0, .int .i64 0, .int .i64 0, .slice none 0 0] 110) := ⟨_, rfl⟩
 rw [← hw1];have HB1 : Hid (Below wB.heap.size wB w1) := by show Below _ _ _; rw [hw1]; exact (Below.refl _ _).alloc (Nat.le_refl _) _
 have HM1 : Hid (Blk w1 (w.heap.size + 1 + 1) 110 [.int .i64 st, .int .i64 rest, .slice a cls.length cap, .string d, .slice ia code.length icap, .slice none 0 0, .slice none 0 0, .int .i64 0, .int .i64 0, .int .i64 0, .int .i64 0, .int .i64 0, .int .i64 0, .int .i64 0, .int .i64 0, .int .i64 0, .int .i64 0, .int .i64 0, .int .i64 0, .int .i64 0, .int .i64 0, .int .i64 0, .int .i64 0, .string inp, .int .i64 (nd : Int), .int .i64 0, .int .i64 0, .int .i64 0, .int .i64 0, .int .i64 0, .int .i64 0, .string ⟨#[]⟩, .int .i64 0, .int .i64 0, .int .i64 0, .int .i64 0, .int .i64 0, .int .i64 0, .int .i64 0, .int .i64 0, .int .i64 0, .slice none 0 0]) := by show Blk _ _ _ _; rw [hw1, ← hsB]; exact Blk.alloc _ _ _
 have hs1 : w1.heap.size = w.heap.size + 1 + 1 + 1 := by rw [hw1, World.size_alloc, hsB]
 clear hw1;have p0' := (HB1.out.cell (p := ⟨w.heap.size, 0, none⟩) HP.out.lt).trans p0;clear p0 p1 p2 p3 p4;go_upto_region 3 with (fail);obtain ⟨w2, hw2⟩ : ∃ v, v = (w1.alloc (.cells mc.toArray 115)).alloc (.cells #[.int .i64 (-1), .int .i64 (-1), .bool true, .slice (some ⟨w.heap.size + 1 + 1 + 1, 0, none⟩) n n] 113) := ⟨_, rfl⟩
 rw [← hw2];have HB2 : Hid (Below w1.heap.size w1 w2) := by show Below _ _ _; rw [hw2]; exact ((Below.refl _ _).alloc (Nat.le_refl _) _).alloc (by simp) _
 have hs2 : w2.heap.size = w.heap.size + 1 + 1 + 1 + 1 + 1 := by rw [hw2, World.size_alloc, World.size_alloc, hs1]
 have HC2 : Hid (Blk w2 (w.heap.size + 1 + 1 + 1) 115 ((dataCells d n 0).flatMap icCells)) := by
  show Blk _ _ _ _;rw [hw2, dataCells_zero, ← hmc.out, ← hs1];exact (Below.heap_alloc _ _ _ (by simp)).trans (heap_alloc_new w1 _)
 have HT2 : Hid (Blk w2 (w.heap.size + 1 + 1 + 1 + 1) 113 [.int .i64 (-1), .int .i64 (-1), .bool true, .slice (some ⟨w.heap.size + 1 + 1 + 1, 0, none⟩) n n]) := by
  show Blk _ _ _ _;rw [hw2];have := heap_alloc_new (w1.alloc (.cells mc.toArray 115)) (.cells #[.int .i64 (-1), .int .i64 (-1), .bool true, .slice (some ⟨w.heap.size + 1 + 1 + 1, 0, none⟩) n n] 113);rw [World.size_alloc, hs1] at this; exact this
 have HM2 := hide2 (HM1.out.below HB2.out HM1.out.lt);have HP2 := hide2 ((HP.out.below HB1.out HP.out.lt).below HB2.out (by omega));have HBB2 : Hid (Below wB.heap.size wB w2) := HB1.out.trans (HB2.out.mono (by omega));clear hw2 hmk p0' HM1 HB1 HB2;have p3 := HP2.out.cell (j := 3) rfl;have t0 := HT2.out.cell (j := 0) rfl;have t1 := HT2.out.cell (j := 1) rfl;have t2 := HT2.out.cell (j := 2) rfl;have t3 := HT2.out.cell (j := 3) rfl;obtain ⟨cb, hcb⟩ : ∃ cb, cb = w.heap.size + 1 + 1 + 1 := ⟨_, rfl⟩
 obtain ⟨tb, htb⟩ : ∃ tb, tb = w.heap.size + 1 + 1 + 1 + 1 := ⟨_, rfl⟩
 rw [← htb] at t0 t1 t2 t3 HT2 hs2;rw [← hcb] at t3 HC2;rw [← htb, ← hcb];have hd1 : d.size ≤ n := by omega
 have HCB := hide2 hcb;have HTB := hide2 htb;clear hcb htb;have hpl : w.heap.size < w2.heap.size := HP2.out.lt;have htl := HT2.out.lt;have hpc : w.heap.size ≠ cb := by have := HCB.out; omega
 have htc : tb ≠ cb := by have := HCB.out; have := HTB.out; omega
 go_wp2
 go_loopw [11] (fun i wr => ∃ m : Nat, m ≤ d.size ∧ i = .int .i64 (m : Int) ∧ Hid (Blk wr cb 115 ((dataCells d n m).flatMap icCells)) ∧ Hid (Kept w2 wr (· = cb))) (fun i _ => d.size - (intOf i).toNat)
 case atStart => exact ⟨0, by omega, rfl, HC2, Kept.refl _ _⟩
 case round =>
  obtain ⟨m, hm, rfl, hbk, hkk⟩ := hrel;have p3' := (World.cell?_of_block (w := w2) (a := ⟨w.heap.size, 3, none⟩) (hkk.out.block w.heap.size hpl hpc)).trans p3;have t0' := (World.cell?_of_block (w := w2) (a := ⟨tb, 0, none⟩) (hkk.out.block tb htl htc)).trans t0;have t1' := (World.cell?_of_block (w := w2) (a := ⟨tb, 1, none⟩) (hkk.out.block tb htl htc)).trans t1;have t2' := (World.cell?_of_block (w := w2) (a := ⟨tb, 2, none⟩) (hkk.out.block tb htl htc)).trans t2;have t3' := (World.cell?_of_block (w := w2) (a := ⟨tb, 3, none⟩) (hkk.out.block tb htl htc)).trans t3
  by_cases hlt : m < d.size
  ·have hI : (m : Int) < (d.size : Int) := by omega
   have hIn : (m : Int) < (n : Int) := by omega
   have HVB : Hid (byteAt d m = (d[m].toNat : Int)) := byteAt_lt hlt;have hbd := byteAt_bd d m;rw [HVB.out] at hbd
   have hp : ((dataCells d n m).flatMap icCells)[m * 3 + 1]? = some (.int .i64 0) := by
    rw [flat_get icCells 3 (fun _ => rfl) (dataCells d n m) m 1 (by omega), List.getElem?_eq_getElem (by rw [dataCells_len]; omega)];have e := dataCells_getD d n m m (by omega);rw [List.getD_eq_getElem?_getD, List.getElem?_eq_getElem (by rw [dataCells_len]; omega), if_neg (by omega)] at e;simp only [Option.getD_some] at e;rw [e]; rfl
   have b1 := hbk.out.cell hp;have g1 := hbk.out.frozen (m * 3 + 1)
   have HNB : Hid (Blk ((wr.setCell ⟨cb, m * 3 + 1, none⟩ (.int .i64 (d[m].toNat : Int))).drew) cb 115 ((dataCells d n (m + 1)).flatMap icCells)) := by
    have := hbk.out.setCell (m * 3 + 1) (.int .i64 (d[m].toNat : Int));rw [← HVB.out, dataCells_step d n m (by omega)] at this;rw [← HVB.out];exact this
   have HNK : Hid (Kept w2 ((wr.setCell ⟨cb, m * 3 + 1, none⟩ (.int .i64 (d[m].toNat : Int))).drew) (· = cb)) := (hkk.out.setCell _ _ rfl).drewN 1;have hwv : wrap64 (d[m].toNat : Int) = (d[m].toNat : Int) := by unfold wrap64; omega
   clear hp
   go_wp2_with fail
   refine wp_region_still_tail 11 (by kernel_rfl) (by kernel_rfl) ?_
   repeat still_step
   refine wpStill_nil ?_;have hwk : IntKind.i64.wrap (d[m].toNat : Int) = (d[m].toNat : Int) := (fun (x : Int) (h0 : 0 ≤ x) (h1 : x ≤ 255) => (by rw [IntKind.wrap_i64]; omega : IntKind.i64.wrap x = x)) _ hbd.1 hbd.2;rw [hwk];go_wp2
   go_roundw
   case rel => exact ⟨m + 1, by omega, by go_num, HNB, HNK⟩
   case measure => simp [intOf]; omega
  ·obtain rfl : m = d.size := by omega
   have HMX := hide2 (hkk.out.blk HM2.out (by have := HCB.out; omega));have HPX := hide2 (hkk.out.blk HP2.out (by have := HCB.out; omega));have m5 := HMX.out.cell (j := 5) rfl;have g5 := HMX.out.frozen 5;have m5a : ∀ o, (wr.alloc o).cell? ⟨w.heap.size + 1 + 1, 5, none⟩ = some (.slice none 0 0) := fun o => (HMX.out.below ((Below.refl _ _).alloc (Nat.le_refl _) o) HMX.out.lt).cell (j := 5) rfl
   have g5a : ∀ o, (wr.alloc o).frozen? ⟨w.heap.size + 1 + 1, 5, none⟩ = false := fun o => (HMX.out.below ((Below.refl _ _).alloc (Nat.le_refl _) o) HMX.out.lt).frozen 5
   have HBX : Hid (Below wB.heap.size wB wr) := kept_below HBB2.out hkk.out (fun b e => by have := HCB.out; omega);have hmne : cb ≠ w.heap.size + 1 + 1 := by have := HCB.out; omega
   have hcge : wB.heap.size ≤ cb := by have := HCB.out; omega
   clear hlt hm hkk p3 t0 t1 t2 t3;go_wp2;have hFmb : F.mb = w.heap.size + 1 + 1 := by rw [HF.out]
   obtain ⟨w4, hw4⟩ : ∃ w4, w4 = (wr.alloc (.cells #[.int .i64 (-1), .int .i64 (-1), .bool false, .slice none 0 0, .int .i64 (-1), .int .i64 (-1), .bool true, .slice (some ⟨cb, 0, none⟩) n n] 113)).setCell ⟨w.heap.size + 1 + 1, 5, none⟩ (.slice (some ⟨wr.heap.size, 0, none⟩) 2 2) := ⟨_, rfl⟩
   rw [← hw4]
   have HS0 : Hid (∃ col, IRep F wB w4 (.slice (some ⟨wr.heap.size, 0, none⟩) 2 2) vNo [vNo, .slice (some ⟨cb, 0, none⟩) n n] col (iBeg (dataCells d n d.size))) := by
    refine irep_start F wB wr w4 cb n (dataCells d n d.size) (dataCells_len _ _ _) HBX.out ?_ hbk.out (by rw [hFmb]; omega) hcge (by rw [hFmb]; exact hmne) (by rw [HF.out]; exact HI.out) (by rw [HF.out]; exact HC.out) (by rw [hFmb]; exact hw4);have e : iC F (iBeg (dataCells d n d.size)) vNo vNo = [.int .i64 st, .int .i64 rest, .slice a cls.length cap, .string d, .slice ia code.length icap, .slice none 0 0, .slice none 0 0, .int .i64 0, .int .i64 0, .int .i64 0, .int .i64 0, .int .i64 0, .int .i64 0, .int .i64 0, .int .i64 0, .int .i64 0, .int .i64 0, .int .i64 0, .int .i64 0, .int .i64 0, .int .i64 0, .int .i64 0, .int .i64 0, .string (iInp inp 0), .int .i64 ((nd : Int) - 0), .int .i64 0, .int .i64 0, .int .i64 0, .int .i64 0, .int .i64 0, .int .i64 0, .string ⟨#[]⟩, .int .i64 0, .int .i64 0, .int .i64 0, .int .i64 0, .int .i64 0, .int .i64 0, .int .i64 0, .int .i64 0, .int .i64 0, .slice none 0 0] := by rw [HF.out]; rfl
    rw [e, iInp_zero, Int.sub_zero, hFmb];exact HMX.out
   have hFc : F.code = code := by rw [HF.out]
   have hFi : F.icap = icap := by rw [HF.out]
   have hFa : F.ia = ia := by rw [HF.out]
   have hFinp : F.inp = inp := by rw [HF.out]
   have hFnd : F.nd = nd := by rw [HF.out]
   have HPB : Hid (Blk wB w.heap.size 39 [.int .i64 st, .int .i64 rest, .slice a cls.length cap, .string d, .slice F.ia F.code.length F.icap]) := by rw [hFc, hFi, hFa]; exact HP
   have HOB : Hid (Blk wB (w.heap.size + 1) 28 zOutI) := HO;have hpB := HP.out.lt;have hi2 : (F.inp.size : Int) ≤ 9223372036854775807 := by rw [hFinp]; exact hin
   have hnd2 : (F.nd : Int) ≤ 9223372036854775807 := by rw [hFnd]; exact hnd
   have hcl2 : F.code.length ≤ 255 := by rw [hFc]; exact hcl
   rw [← hFmb];have hpm : w.heap.size ≠ F.mb := by omega
   have HIN0 : Hid (IIn F wB w4 (mFuel fuel) Sf) := by
    obtain ⟨col, hr⟩ := HS0.out;exact ⟨.inl ⟨_, _, _, _, _, 4097, hr, rfl, Nat.zero_le _, ⟨_, HHEAD.out⟩, HSF.out.symm, Nat.le_refl _, Nat.le_refl _, Nat.le_refl _, Nat.le_refl _⟩⟩
   clear hw4 HS0 p3' HMX HPX HBX m5 g5 m5a g5a hmne hcge hbk hFc hFi hFa hFinp hFnd hFmb t0' t1' t2' t3' HHEAD HSF HF HP HO HP2 HT2 HM2 HC2 HBB2 HC HI HV HCB HTB hpl htl hpc htc hs2 hs1 hsB hmc hin hnd hcl hd hst0 hst1 hn hd1
   go_loopw [] (fun wr => Hid (IIn F wB wr (mFuel fuel) Sf)) (fun wr => iMeas wr F.mb)
   case atStart => exact HIN0
   case round =>
    clear HIN0
    rcases hrel.out.ex with ⟨vT1, vF1, V1, col1, S1, k, hin⟩ | ⟨vT1, vF1, V1, col1, S1, hin⟩
    ·have HIN := hide2 hin;have c25 := hin.rep.c25;have c26 := hin.rep.c26;have c29 := hin.rep.c29;have f29 := hin.rep.blk.frozen 29;have s1 := hin.s1;rw [hin.en] at c26;clear hrel hin;go_upto_region 13 with (fail);obtain ⟨wb, hwb⟩ : ∃ wb, wb = wr.setCell ⟨F.mb, 29, none⟩ (.int .i64 (S1.next : Int)) := ⟨_, rfl⟩
     rw [← hwb];have HM1 : Hid (IRep F wB wb vT1 vF1 V1 col1 (S1.stands S1.next)) := by show IRep _ _ _ _ _ _ _ _; rw [hwb]; exact HIN.out.rep.setPc S1.next
     clear hwb c25 c26 c29 f29;have c25 : wb.cell? ⟨F.mb, 25, none⟩ = some (.int .i64 S1.next) := HM1.out.c25;have q4 := (HM1.out.below.cell (p := ⟨w.heap.size, 4, none⟩) hpB).trans (HPB.out.cell (j := 4) rfl)
     go_quiet (fail)
     obtain ⟨wc, hwc⟩ : ∃ wc, wc = wb.drewN nq := ⟨_, rfl⟩
     rw [← hwc];have hbb : Below wb.heap.size wb wc := by rw [hwc]; exact below_drewN (Below.refl _ _) _
     have HM3 := hide2 (HM1.out.under hbb);clear hwc hbb nq c25 q4 HM1
     by_cases hp : F.code.length ≤ S1.next
     ·have HP := hide2 hp;have hpI : (F.code.length : Int) ≤ (S1.next : Int) := by omega
      have c26 := HM3.out.c26;have f26 := HM3.out.blk.frozen 26;have HFN := hide2 (HIN.out.over hp (HM3.out.setEn 2));clear hp;go_wp2
      go_roundw
      case rel => exact HFN.out.1
      case measure => exact HFN.out.2
     ·have HP := hide2 hp;have hpI : ¬ (F.code.length : Int) ≤ (S1.next : Int) := by omega
      have hpl : S1.next < F.code.length := by omega
      have c28 : wc.cell? ⟨F.mb, 28, none⟩ = some (.int .i64 S1.steps) := HM3.out.c28;have hmf := HMF.out S1.steps s1;clear hp
      by_cases hst : mFuel fuel ≤ (S1.steps : Int)
      ·have c26 := HM3.out.c26;have f26 := HM3.out.blk.frozen 26;have HFN := hide2 (HIN.out.outf HP.out hst (HM3.out.setEn 3));have hor := hmf.1 hst;clear hst hmf
       by_cases hfu : fuel ≤ (S1.steps : Int)
       ·clear hor;go_wp2
        go_roundw
        case rel => exact HFN.out.1
        case measure => exact HFN.out.2
       ·have h4 : 4096 ≤ (S1.steps : Int) := by omega
        clear hor;go_wp2
        go_roundw
        case rel => exact HFN.out.1
        case measure => exact HFN.out.2
      ·have HST := hide2 hst;have h4 : ¬ 4096 ≤ (S1.steps : Int) := fun e => hst (hmf.2 (.inl e))
       have hfu : ¬ fuel ≤ (S1.steps : Int) := fun e => hst (hmf.2 (.inr e))
       have hs4 : S1.steps < 4096 := by omega
       have f28 := HM3.out.blk.frozen 28;have c25 : wc.cell? ⟨F.mb, 25, none⟩ = some (.int .i64 S1.next) := HM3.out.c25;have f25 := HM3.out.blk.frozen 25;clear hst hmf;go_upto_region 12 with (fail);obtain ⟨wd, hwd⟩ : ∃ wd, wd = (wc.setCell ⟨F.mb, 28, none⟩ (.int .i64 ((S1.steps : Int) + 1))).setCell ⟨F.mb, 25, none⟩ (.int .i64 ((S1.next : Int) + 1)) := ⟨_, rfl⟩
       rw [← hwd]
       have HM4 : Hid (IRep F wB wd vT1 vF1 V1 col1 ((S1.stands S1.next).stepped.goes (S1.next + 1))) := by
        show IRep _ _ _ _ _ _ _ _;have := (HM3.out.setSteps).setNext (S1.next + 1);rw [hwd];exact this
       clear hwd c28 f28 c25 f25 HM3;obtain ⟨nn, hmay⟩ := HCODE.out S1.next hpl;have HMAY := hide2 hmay;have HCR := hide2 HM4.out.codeR;obtain ⟨g, off, hea, hg, hcd⟩ := HCR.out.cells (by omega);obtain ⟨d0, d1, d2, d3⟩ := hcd S1.next hpl;have q4 : wd.cell? ⟨w.heap.size, 4, none⟩ = some (.slice (some ⟨g, off, none⟩) F.code.length F.icap) := by rw [← hea]; exact (HM4.out.below.cell (p := ⟨w.heap.size, 4, none⟩) hpB).trans (HPB.out.cell (j := 4) rfl)
       have c29 : wd.cell? ⟨F.mb, 29, none⟩ = some (.int .i64 S1.next) := HM4.out.c29;have HNX := hide2 (fun (w' : World) (hD : IDone F wB w' (iDo F ((S1.stands S1.next).stepped.goes (S1.next + 1)) (F.code.getD S1.next Ins.no))) => HIN.out.next HP.out HST.out hs4 ds HFD.out nn hmay hD);have HGD := hide2 HIN.out.good;have t1 : S1.T.length ≤ 900000 := by have := HIN.out.t1; omega
       have f1 : S1.F.length ≤ 1000000 := by have := HIN.out.f1; omega
       have o1 : S1.out.size ≤ 1048576 := by have := HIN.out.o1; omega
       have HDO := hide2 (fun w' hw' => ido_any F wB vT1 vF1 V1 col1 ((S1.stands S1.next).stepped.goes (S1.next + 1)) w' hw' HGD.out HIN.out.en (F.code.getD S1.next Ins.no) nn hmay t1 f1 hnd2 hi2 o1);generalize F.code.getD S1.next Ins.no = x at *;obtain ⟨xo, xa, xb, xc⟩ := x;simp only at d0 d1 d2 d3;have e0 : wd.cell? ⟨g, off + S1.next * 4, none⟩ = some (.int .i64 xo) := (HM4.out.below.cell (p := ⟨g, off + S1.next * 4, none⟩) hg).trans d0;have e1 : wd.cell? ⟨g, off + S1.next * 4 + 1, none⟩ = some (.int .i64 xa) := (HM4.out.below.cell (p := ⟨g, off + S1.next * 4 + 1, none⟩) hg).trans d1;have e2 : wd.cell? ⟨g, off + S1.next * 4 + 2, none⟩ = some (.int .i64 xb) := (HM4.out.below.cell (p := ⟨g, off + S1.next * 4 + 2, none⟩) hg).trans d2;have e3 : wd.cell? ⟨g, off + S1.next * 4 + 3, none⟩ = some (.int .i64 xc) := (HM4.out.below.cell (p := ⟨g, off + S1.next * 4 + 3, none⟩) hg).trans d3;have hpI2 : (S1.next : Int) < (F.code.length : Int) := by omega
       generalize iDo F ((S1.stands S1.next).stepped.goes (S1.next + 1)) ⟨xo, xa, xb, xc⟩ = S2 at *;clear hcd d0 d1 d2 d3 hmay hea HCR HMAY HGD;refine wp_region_still_tail 10 (by kernel_rfl) (by kernel_rfl) ?_
       repeat still_step
       refine wpStill_nil ?_
       go_wp2_with (go_at_call 46; refine (HDO.out wd.drew (HM4.out.under ((Below.refl _ _).drew))).mono ?_; rintro e4 w5 ⟨rfl, hd5⟩; have HD5 := hide2 hd5; clear hd5)
       have HNY := hide2 (HNX.out w5 HD5.out)
       go_roundw
       case rel => exact HNY.out.1
       case measure => exact HNY.out.2
    ·have HS := hide2 hin.rep;have HM9 := hide2 (HEND.out S1 hin.is);have c26 := hin.rep.c26;have hne : (S1.en == 0) = false := by rw [beq_eq_false_iff_ne]; exact hin.en
     clear hrel hin;go_upto_region 17 with (fail);clear c26 hne;have HRG := hide2 HS.out.outcome;have HDN := irow_done HS.out HOB.out HBB.out;have HOZ := hide2 HDN.1;have HNF := hide2 HDN.2.1;have HONE := hide2 HDN.2.2;clear HDN;apply wp_region_lit;refine wpList_plain rfl (fun K hK => ?_);go_simp;refine hK _ _ ?_;clear hK K;refine wpList_plain rfl (fun K hK => ?_);go_simp;refine hK _ _ ?_;clear hK K;refine wpList_plain rfl (fun K hK => ?_);go_simp;refine hK _ _ ?_;clear hK K;refine wpList_load_mid rfl 28 _ rfl F.mb 26 rfl (outI S1) _ HRG.out Tryz.underlying28 rfl (by kernel_rfl) ?_;refine wpList_store_row rfl 28 _ _ rfl (w.heap.size + 1) (outI S1).toArray rfl rfl 28 _ HOZ.out (by kernel_rfl) rfl HONE.out ?_;go_wp2;refine bodyPost_ret (v := .agg (outI S1).toArray) ?_ rfl ⟨S1, rfl, HNF.out, HM9.out⟩;exact results_cell_row Tryz.results25 _ _ (w.heap.size + 1) 28 (outI S1).toArray (0, 0) _ rfl (setRow_heap _ _ _ _ _ _ HOZ.out) Tryz.underlying28 rfl (by kernel_rfl)
end Go.Proofs.YtjikemhmnkckcabGreat
