import Derived.Test.YtjikemhmnkckcabGreatJ53
/- The document's Run (written by gendoc2.py). -/
namespace Go.Proofs.YtjikemhmnkckcabGreat
open Go.RowKit
attribute [local go_sem ↓] Go.wp_at_zero Go.wp_at_succ

set_option maxRecDepth 100000 in
set_option maxHeartbeats 6400000 in
theorem rrun_img (d inp : ByteArray) (da : Option Addr) (dcap : Nat) (ds : List Int) (fuel : Int) (w : World) (hd : (d.size : Int) ≤ 9223372036854775807) (hi : (inp.size : Int) ≤ 9223372036854775807) (hB : imgB d = true) (hdr : DRow w da dcap ds) :
    Calls Tryz.prog 7 #[.string d, .string inp, .slice da ds.length dcap, .int .i64 fuel] w fun e w' => ∃ vn, e = .returned (.agg (outOf (mFin d inp ds fuel) vn).toArray) ∧ NearRel w (mFin d inp ds fuel).rep.near vn w' := by
  obtain ⟨hv, hdt, hcp⟩ := img_parts hB
  have hs : soundB (byteAt d 2) (byteAt d 3) (pCls d) (pData d).size (pCode d) = true := (imgB_yes hB).1
  unfold soundB at hs
  simp only [Bool.and_eq_true, decide_eq_true_eq] at hs
  have HMAY := hide2 (codeB_may hs.2.2)
  have hcl : (pCode d).length ≤ 255 := (img_code hB).2
  have hdl : (pData d).size ≤ 255 := hs.1.2.1
  have HV := hide2 hv
  have HSIM := hide2 (lays_sim hv (pData d) hdt)
  have HBB := hide2 hB
  have HDR := hide2 hdr
  have HFN : Hid (mFin d inp ds fuel = mRun inp ds (pCode d) (mFuel fuel) 4097 (⟨(⟨byteAt d 2, byteAt d 3, pCls d, [], []⟩ : RSt).lays (pData d) (pData d).size, [0, 0, 0, 0, 0, 0, 0, 0], 0, 0, ⟨#[]⟩, 0, 0, 0, 0, 0, Rpt.only 0⟩ : MS)) := rfl
  have HMF : Hid (∀ s : Nat, s ≤ 4096 → (mFuel fuel ≤ (s : Int) ↔ s = 4096 ∨ fuel ≤ (s : Int))) := fun s hs => by unfold mFuel; split <;> omega
  generalize mFin d inp ds fuel = Sf at *
  clear hB hv hdt hdr hs
  go_enter Tryz.func7, Tryz.ntmps7
  go_upto_region 1 with (fail)
  obtain ⟨wa, hwa⟩ : ∃ wa, wa = w.alloc (.cells (outC 0 0 0 0 0 ⟨#[]⟩ zRep).toArray 28) := ⟨_, rfl⟩
  have HBA : Hid (Below w.heap.size w wa) := by show Below _ _ _; rw [hwa]; exact (Below.refl _ _).alloc (Nat.le_refl _) _
  have HO : Hid (Blk wa w.heap.size 28 (outC 0 0 0 0 0 ⟨#[]⟩ zRep)) := by show Blk _ _ _ _; rw [hwa]; exact Blk.alloc _ _ _
  unfold outC zRep at hwa
  simp only [List.cons_append, List.nil_append] at hwa
  rw [← hwa]
  clear hwa
  go_upto_region 2 with (go_at_call 17; refine (rread_any d wa hd).mono ?_; rintro e1 w1 ⟨a, cap, ia, icap, rfl, hrows, hbel⟩; obtain ⟨y0, y1, y2, y3, y4, y5⟩ := o_yes HBB.out; rw [y2, y4] at hrows; rw [y0, y1, y2, y3, y4, y5]; have HR1 := hide2 hrows; have HB1 := hide2 hbel; have HO1 := hide2 (HO.out.below hbel HO.out.lt); clear hbel hrows y0 y1 y2 y3 y4 y5)
  generalize byteAt d 2 = st at *
  generalize byteAt d 3 = re at *
  generalize pCls d = cls at *
  generalize pData d = dt at *
  generalize pCode d = code at *
  obtain ⟨w2, hw2⟩ : ∃ w2, w2 = w1.alloc (.cells #[.int .i64 st, .int .i64 re, .slice a cls.length cap, .string dt, .slice ia code.length icap] 39) := ⟨_, rfl⟩
  have HX2 : Hid (Below w1.heap.size w1 w2) := by show Below _ _ _; rw [hw2]; exact (Below.refl _ _).alloc (Nat.le_refl _) _
  have HP2 : Hid (Blk w2 w1.heap.size 39 [.int .i64 st, .int .i64 re, .slice a cls.length cap, .string dt, .slice ia code.length icap]) := by show Blk _ _ _ _; rw [hw2]; exact Blk.alloc _ _ _
  rw [← hw2]
  have HO2 := hide2 (HO1.out.below HX2.out HO1.out.lt)
  have HR2 := hide2 (HR1.out.kept (fun g _ hg => HX2.out.block g hg))
  have hsz1 := HB1.out.size
  have hsza := HBA.out.size
  have HBL2 : Hid (Below w.heap.size w w2) := (HBA.out.trans (HB1.out.mono hsza)).trans (HX2.out.mono (by omega))
  have hoa := HO.out.lt
  have hw12 : w.heap.size < w1.heap.size := by omega
  clear hw2 HX2 HO1 HB1 HO HR1
  have HDR2 : Hid (DRow w2 da dcap ds) := HDR.out.kept HBL2.out.size (fun g _ _ hg => HBL2.out.block g hg)
  have hp2 := HP2.out.lt
  have p0 := HP2.out.cell (j := 0) rfl
  have p1 := HP2.out.cell (j := 1) rfl
  have p2 := HP2.out.cell (j := 2) rfl
  go_upto_region 5 with (go_at_call 18; refine (rnew_yes st re a cap cls w2 (crow_of HR2.out.crow) HV.out).mono ?_; rintro e1 w3 ⟨ph, vc, rfl, hrep, hb3, hph, hvc⟩; have HH3 := hide2 hrep; have HB3 := hide2 hb3; have HPH := hide2 hph; have HVC := hide2 hvc; clear hrep hb3 hph hvc)
  clear p0 p1 p2
  have HFT3 : Hid (∀ b, RFoot ph vc (.slice none 0 0) (.slice none 0 0) b → w2.heap.size ≤ b) := fun b hb => by
    rcases hb with hb | hb | hb | hb
    · rw [hb]; exact HPH.out
    · exact HVC.out b hb
    · cases hb
    · cases hb
  clear HPH HVC
  go_wp2
  go_loopw [13] (fun i wr => ∃ m : Nat, m ≤ dt.size ∧ i = .int .i64 (m : Int) ∧ ∃ vm, Hid (RRep wr ph vc (.slice none 0 0) vm ((⟨st, re, cls, [], []⟩ : RSt).lays dt m)) ∧ Hid (Below w2.heap.size w2 wr) ∧ Hid (∀ b, RFoot ph vc (.slice none 0 0) vm b → w2.heap.size ≤ b)) (fun i _ => dt.size - (intOf i).toNat)
  case atStart => exact ⟨0, by omega, rfl, .slice none 0 0, HH3, HB3, HFT3⟩
  case round =>
    obtain ⟨m, hm, rfl, vm, HRR, HBR, HFR⟩ := hrel
    clear HH3 HB3 HFT3
    have q3 := (HBR.out.cell (p := ⟨w1.heap.size, 3, none⟩) hp2).trans (HP2.out.cell (j := 3) rfl)
    by_cases hlt : m < dt.size
    · have hmI : (m : Int) < (dt.size : Int) := by omega
      have HV2 : Hid (wrap64 ((dt[m]'hlt).toNat : Int) = byteAt dt m) := by show _ = _; rw [← byteAt_lt hlt]; have := byteAt_bd dt m; unfold wrap64; omega
      have HML : Hid (((⟨st, re, cls, [], []⟩ : RSt).lays dt m).marks.length = m) := RSt.lays_marks _ _ _ rfl
      have hdn : dt.size ≤ 255 := hdl
      go_wp2_with (go_at_call 19; refine (rmark_any ph vc (.slice none 0 0) vm ((⟨st, re, cls, [], []⟩ : RSt).lays dt m) _ _ wr HRR.out (by have := HML.out; omega)).mono ?_; rw [HV2.out]; rintro e1 w5 ⟨vm5, rfl, hr5, hk5, hn5⟩; have HR5 := hide2 hr5; have HK5 := hide2 hk5; have HN5 := hide2 hn5; clear hr5 hk5 hn5)
      have HB5 : Hid (Below w2.heap.size w2 w5) := HBR.out.trans (HK5.out.to_below HBR.out.size (fun b hb => by
        rcases hb with hb | hb
        · exact HFR.out b (.inl hb)
        · exact HFR.out b (.inr (.inr (.inr hb)))))
      have HF5 : Hid (∀ b, RFoot ph vc (.slice none 0 0) vm5 b → w2.heap.size ≤ b) := fun b hb => by
        rcases hb with hb | hb | hb | hb
        · exact HFR.out b (.inl hb)
        · exact HFR.out b (.inr (.inl hb))
        · cases hb
        · rcases HN5.out b hb with e | e
          · exact HFR.out b (.inr (.inr (.inr e)))
          · have := HBR.out.size; omega
      go_roundw
      case rel => exact ⟨m + 1, by omega, by go_num, vm5, HR5, HB5, HF5⟩
      case measure => simp [intOf]; omega
    · obtain rfl : m = dt.size := by omega
      clear hlt hm
      have q0 := (HBR.out.cell (p := ⟨w1.heap.size, 0, none⟩) hp2).trans (HP2.out.cell (j := 0) rfl)
      have q1 := (HBR.out.cell (p := ⟨w1.heap.size, 1, none⟩) hp2).trans (HP2.out.cell (j := 1) rfl)
      have q2 := (HBR.out.cell (p := ⟨w1.heap.size, 2, none⟩) hp2).trans (HP2.out.cell (j := 2) rfl)
      have q4 := (HBR.out.cell (p := ⟨w1.heap.size, 4, none⟩) hp2).trans (HP2.out.cell (j := 4) rfl)
      go_wp2
      have hin0 := inpFrom_zero inp
      obtain ⟨F, hF⟩ : ∃ F : SFix, F = ⟨wr.heap.size, ph, vc, st, re, .slice a cls.length cap, dt, ia, icap, code, inp, ds⟩ := ⟨_, rfl⟩
      obtain ⟨S0, hS0⟩ : ∃ S0 : MS, S0 = ⟨(⟨st, re, cls, [], []⟩ : RSt).lays dt dt.size, [0, 0, 0, 0, 0, 0, 0, 0], 0, 0, ⟨#[]⟩, 0, 0, 0, 0, 0, Rpt.only 0⟩ := ⟨_, rfl⟩
      obtain ⟨w4, hw4⟩ : ∃ w4, w4 = wr.alloc (.cells #[.int .i64 st, .int .i64 re, .slice a cls.length cap, .string dt, .slice ia code.length icap, .pointer (some ⟨ph, 0, none⟩), .int .i64 0, .int .i64 0, .int .i64 0, .int .i64 0, .int .i64 0, .int .i64 0, .int .i64 0, .int .i64 0, .string inp, .slice da ds.length dcap, .int .i64 0, .int .i64 0, .int .i64 0, .int .i64 0, .int .i64 0, .int .i64 0, .string ⟨#[]⟩, .int .i64 0, .int .i64 0, .int .i64 0, .int .i64 0, .int .i64 0, .int .i64 0, .int .i64 0, .int .i64 0, .int .i64 0, .slice none 0 0] 57) := ⟨_, rfl⟩
      have hcells : sC F S0 da dcap (.slice none 0 0) = [.int .i64 st, .int .i64 re, .slice a cls.length cap, .string dt, .slice ia code.length icap, .pointer (some ⟨ph, 0, none⟩), .int .i64 0, .int .i64 0, .int .i64 0, .int .i64 0, .int .i64 0, .int .i64 0, .int .i64 0, .int .i64 0, .string (inpFrom inp 0), .slice da ds.length dcap, .int .i64 0, .int .i64 0, .int .i64 0, .int .i64 0, .int .i64 0, .int .i64 0, .string ⟨#[]⟩, .int .i64 0, .int .i64 0, .int .i64 0, .int .i64 0, .int .i64 0, .int .i64 0, .int .i64 0, .int .i64 0, .int .i64 0, .slice none 0 0] := by rw [hF, hS0]; rfl
      rw [hin0] at hcells
      have hb4 : Below wr.heap.size wr w4 := by rw [hw4]; exact (Below.refl _ _).alloc (Nat.le_refl _) _
      have hblk : Blk w4 F.sb 57 (sC F S0 da dcap (.slice none 0 0)) := by rw [hcells, hF, hw4]; exact Blk.alloc _ _ _
      have hwr2 := HBR.out.size
      have hrep : SRep F w2 w4 (.slice none 0 0) vm (.slice none 0 0) da dcap S0 := by
        refine ⟨hblk, ?_, ?_, ?_, ?_, ?_, HBR.out.trans (hb4.mono hwr2), ?_, ?_, ?_, ?_, ?_, ?_, ?_⟩
        · rw [hF, hS0]; exact HRR.out.below hb4
        · rw [hS0]; exact HSIM.out
        · rw [hS0]; exact ⟨rfl, .inl ⟨rfl, rfl⟩⟩
        · rw [hS0]; rfl
        · intro k hk
          rw [hS0]
          show -9223372036854775808 ≤ rg [0, 0, 0, 0, 0, 0, 0, 0] k ∧ rg [0, 0, 0, 0, 0, 0, 0, 0] k ≤ 9223372036854775807
          rcases k with _ | _ | _ | _ | _ | _ | _ | _ | k <;> first | (simp [rg]; done) | omega
        · rw [hF]; exact hwr2
        · intro b hb
          rw [hF] at hb ⊢
          exact ⟨HFR.out b hb, fun e => by have h1 := HRR.out.foot_lt2 hb; have h2 : b = wr.heap.size := e; omega⟩
        · intro g hg; simp [Value.ownBlock] at hg
        · rw [hF]; exact irow_of HR2.out.irow
        · rw [hF, hS0]; exact HDR2.out
        · rw [hF, hS0]; exact Nat.zero_le _
        · rw [hF, hS0]; exact Nat.zero_le _
      have HIN0 : Hid (DIn F w2 w4 (mFuel fuel) Sf (.slice none 0 0) vm (.slice none 0 0) da dcap S0 4097 0) := by
        refine ⟨?_, by rw [hS0], by rw [hS0]; exact Nat.zero_le _, by rw [hS0]; exact Nat.le_refl _, by rw [hS0]; exact Nat.le_refl _, by rw [hS0]; exact Nat.zero_le _, by rw [hS0]; exact Nat.le_refl _, ?_, ?_, ?_⟩
        · have e : (S0.goes S0.pc).stands 0 = S0 := by rw [hS0]; rfl
          rw [e]; exact hrep
        · rw [hS0]
          show ((⟨st, re, cls, [], []⟩ : RSt).lays dt dt.size).log.length ≤ _
          rw [(RSt.lays_same _ _ _).2.2.2]; exact Nat.zero_le _
        · rw [hS0]
          show ((⟨st, re, cls, [], []⟩ : RSt).lays dt dt.size).marks.length ≤ _
          rw [RSt.lays_marks _ _ _ rfl]; show dt.size ≤ 255 + 65536 * 0; omega
        · rw [hS0, hF]; exact HFN.out.symm
      have hFsb : F.sb = wr.heap.size := by rw [hF]
      have hFc : F.code = code := by rw [hF]
      have hFi : F.icap = icap := by rw [hF]
      have hFa : F.ia = ia := by rw [hF]
      have hFinp : F.inp = inp := by rw [hF]
      rw [← hw4, ← hFsb]
      have HMAY2 : Hid (∀ i, i < F.code.length → (F.code.getD i Ins.no).may F.code.length = true) := by rw [hFc]; exact HMAY
      have hi2 : (F.inp.size : Int) ≤ 9223372036854775807 := by rw [hFinp]; exact hi
      have hcl2 : F.code.length ≤ 255 := by rw [hFc]; exact hcl
      have HP3 : Hid (Blk w2 w1.heap.size 39 [.int .i64 st, .int .i64 re, .slice a cls.length cap, .string dt, .slice F.ia F.code.length F.icap]) := by rw [hFc, hFi, hFa]; exact HP2
      have hsbw : w2.heap.size ≤ F.sb := by rw [hFsb]; exact hwr2
      clear hrep hblk hcells hw4 hF hS0 hFsb hFc hFi hFa hFinp hb4 hin0 q0 q1 q2 q3 q4 HP2 HMAY HRR HBR HFR HSIM HFN HDR HDR2 HBB HV HR2 hwr2 hcl hdl hi hd
      go_loopw [] (fun wr => Hid (∃ vl vm vn da dcap S1 k pc0, DIn F w2 wr (mFuel fuel) Sf vl vm vn da dcap S1 k pc0)) (fun wr => 4097 - sSteps wr F.sb)
      case atStart => exact ⟨_, _, _, _, _, _, _, _, HIN0.out⟩
      case round =>
        obtain ⟨vl1, vm1, vn1, da1, dcap1, S1, k, pc0, hin⟩ := hrel.out
        have HIN := hide2 hin
        have HSS : Hid (sSteps wr F.sb = S1.steps) := hin.rep.sSteps
        have c16 : wr.cell? ⟨F.sb, 16, none⟩ = some (.int .i64 S1.pc) := hin.rep.c16
        have c20 := hin.rep.c20
        have f20 := hin.rep.blk.frozen 20
        have s1 := hin.s1
        have k1 := hin.k1
        have p1 := hin.p1
        clear hrel hin HIN0
        go_upto_region 11 with (fail)
        obtain ⟨wb, hwb⟩ : ∃ wb, wb = wr.setCell ⟨F.sb, 20, none⟩ (.int .i64 (S1.pc : Int)) := ⟨_, rfl⟩
        rw [← hwb]
        have HM1 : Hid (SRep F w2 wb vl1 vm1 vn1 da1 dcap1 ((S1.goes S1.pc).stands S1.pc)) := by show SRep _ _ _ _ _ _ _ _ _; rw [hwb]; exact HIN.out.rep.setPc S1.pc
        clear hwb c16 c20 f20
        have c16 : wb.cell? ⟨F.sb, 16, none⟩ = some (.int .i64 S1.pc) := HM1.out.c16
        have q4 := (HM1.out.below.cell (p := ⟨w1.heap.size, 4, none⟩) hp2).trans (HP3.out.cell (j := 4) rfl)
        go_quiet (fail)
        obtain ⟨wc, hwc⟩ : ∃ wc, wc = wb.drewN nq := ⟨_, rfl⟩
        rw [← hwc]
        have hbb : Below wb.heap.size wb wc := by rw [hwc]; exact below_drewN (Below.refl _ _) _
        have HM2 := hide2 (HM1.out.under hbb)
        clear hwc hbb nq c16 q4 HM1
        by_cases hp : S1.pc = F.code.length
        · have HP := hide2 hp
          have hpb : ((S1.pc : Int) == (F.code.length : Int)) = true := by rw [hp]; simp
          have c17 := HM2.out.c17
          have f17 := HM2.out.blk.frozen 17
          clear hp
          go_upto_region 13 with (fail)
          obtain ⟨wz, hwz⟩ : ∃ wz, wz = wc.setCell ⟨F.sb, 17, none⟩ (.int .i64 2) := ⟨_, rfl⟩
          rw [← hwz]
          have HS : Hid (SRep F w2 wz vl1 vm1 vn1 da1 dcap1 (((S1.goes S1.pc).stands S1.pc).ends 2)) := by show SRep _ _ _ _ _ _ _ _ _; rw [hwz]; exact HM2.out.setEn 2
          clear hwz c17 f17 HM2
          have HSF : Hid (Sf = S1.ends 2) := by show _ = _; rw [← HIN.out.comes, mRun_over HIN.out.en (by have := HP.out; omega) (by omega)]
          have HRG : Hid (wz.rangeAt F.sb 17 (outOf Sf vn1)) := by show World.rangeAt _ _ _ _; rw [HSF.out]; exact HS.out.outcome
          have HDN := row_done HS.out HO2.out HBL2.out
          have HOZ := hide2 HDN.1
          have HNF : Hid (NearRel w Sf.rep.near vn1 (wz.setRow w.heap.size (outOf Sf vn1).toArray)) := by show NearRel _ _ _ _; rw [HSF.out]; exact HDN.2.1
          have HONE : Hid ((outOf Sf vn1).toArray.all (·.oneCell') = true) := by show _ = _; rw [HSF.out]; exact HDN.2.2
          clear HDN HSF
          apply wp_region_lit
          refine wpList_plain rfl (fun K hK => ?_)
          go_simp
          refine hK _ _ ?_
          clear hK K
          refine wpList_plain rfl (fun K hK => ?_)
          go_simp
          refine hK _ _ ?_
          clear hK K
          refine wpList_plain rfl (fun K hK => ?_)
          go_simp
          refine hK _ _ ?_
          clear hK K
          refine wpList_load_mid rfl 28 _ rfl F.sb 17 rfl (outOf Sf vn1) _ HRG.out Tryz.underlying28 rfl (by kernel_rfl) ?_
          refine wpList_store_row rfl 28 _ _ rfl w.heap.size (outOf Sf vn1).toArray rfl rfl 28 _ HOZ.out (by kernel_rfl) rfl HONE.out ?_
          go_wp2
          refine bodyPost_ret (v := .agg (outOf Sf vn1).toArray) ?_ rfl ⟨vn1, rfl, HNF.out⟩
          exact results_cell_row Tryz.results7 _ _ w.heap.size 28 (outOf Sf vn1).toArray (0, 0) _ rfl (setRow_heap _ _ _ _ _ _ HOZ.out) Tryz.underlying28 rfl (by kernel_rfl)
        · have HP : Hid (¬ F.code.length ≤ S1.pc) := by show ¬ _; omega
          have hpl : S1.pc < F.code.length := by omega
          have hpb : ((S1.pc : Int) == (F.code.length : Int)) = false := by rw [beq_eq_false_iff_ne]; omega
          have c19 : wc.cell? ⟨F.sb, 19, none⟩ = some (.int .i64 S1.steps) := HM2.out.c19
          have hmf := HMF.out S1.steps s1
          clear hp
          by_cases hst : mFuel fuel ≤ (S1.steps : Int)
          · have HST := hide2 hst
            have c17 := HM2.out.c17
            have f17 := HM2.out.blk.frozen 17
            have hor := hmf.1 hst
            have hfin : ∀ wz, wz = wc.setCell ⟨F.sb, 17, none⟩ (.int .i64 3) → SRep F w2 wz vl1 vm1 vn1 da1 dcap1 (((S1.goes S1.pc).stands S1.pc).ends 3) := fun wz hwz => by rw [hwz]; exact HM2.out.setEn 3
            replace hfin := hide2 hfin
            clear hst hmf
            by_cases h4 : S1.steps = 4096
            · have h4b : ((S1.steps : Int) == 4096) = true := by rw [h4]; rfl
              clear h4 hor
              go_upto_region 16 with (fail)
              obtain ⟨wz, hwz⟩ : ∃ wz, wz = wc.setCell ⟨F.sb, 17, none⟩ (.int .i64 3) := ⟨_, rfl⟩
              rw [← hwz]
              have HS := hide2 (hfin.out wz hwz)
              clear hwz c17 f17 c19 HM2
              have HSF : Hid (Sf = S1.ends 3) := by show _ = _; rw [← HIN.out.comes, mRun_out HIN.out.en HP.out HST.out (by omega)]
              have HRG : Hid (wz.rangeAt F.sb 17 (outOf Sf vn1)) := by show World.rangeAt _ _ _ _; rw [HSF.out]; exact HS.out.outcome
              have HDN := row_done HS.out HO2.out HBL2.out
              have HOZ := hide2 HDN.1
              have HNF : Hid (NearRel w Sf.rep.near vn1 (wz.setRow w.heap.size (outOf Sf vn1).toArray)) := by show NearRel _ _ _ _; rw [HSF.out]; exact HDN.2.1
              have HONE : Hid ((outOf Sf vn1).toArray.all (·.oneCell') = true) := by show _ = _; rw [HSF.out]; exact HDN.2.2
              clear HDN HSF
              apply wp_region_lit
              refine wpList_plain rfl (fun K hK => ?_)
              go_simp
              refine hK _ _ ?_
              clear hK K
              refine wpList_plain rfl (fun K hK => ?_)
              go_simp
              refine hK _ _ ?_
              clear hK K
              refine wpList_plain rfl (fun K hK => ?_)
              go_simp
              refine hK _ _ ?_
              clear hK K
              refine wpList_load_mid rfl 28 _ rfl F.sb 17 rfl (outOf Sf vn1) _ HRG.out Tryz.underlying28 rfl (by kernel_rfl) ?_
              refine wpList_store_row rfl 28 _ _ rfl w.heap.size (outOf Sf vn1).toArray rfl rfl 28 _ HOZ.out (by kernel_rfl) rfl HONE.out ?_
              go_wp2
              refine bodyPost_ret (v := .agg (outOf Sf vn1).toArray) ?_ rfl ⟨vn1, rfl, HNF.out⟩
              exact results_cell_row Tryz.results7 _ _ w.heap.size 28 (outOf Sf vn1).toArray (0, 0) _ rfl (setRow_heap _ _ _ _ _ _ HOZ.out) Tryz.underlying28 rfl (by kernel_rfl)
            · have h4b : ((S1.steps : Int) == 4096) = false := by rw [beq_eq_false_iff_ne]; omega
              have hfu : fuel ≤ (S1.steps : Int) := by omega
              clear h4 hor
              go_upto_region 16 with (fail)
              obtain ⟨wz, hwz⟩ : ∃ wz, wz = wc.setCell ⟨F.sb, 17, none⟩ (.int .i64 3) := ⟨_, rfl⟩
              rw [← hwz]
              have HS := hide2 (hfin.out wz hwz)
              clear hwz c17 f17 c19 HM2
              have HSF : Hid (Sf = S1.ends 3) := by show _ = _; rw [← HIN.out.comes, mRun_out HIN.out.en HP.out HST.out (by omega)]
              have HRG : Hid (wz.rangeAt F.sb 17 (outOf Sf vn1)) := by show World.rangeAt _ _ _ _; rw [HSF.out]; exact HS.out.outcome
              have HDN := row_done HS.out HO2.out HBL2.out
              have HOZ := hide2 HDN.1
              have HNF : Hid (NearRel w Sf.rep.near vn1 (wz.setRow w.heap.size (outOf Sf vn1).toArray)) := by show NearRel _ _ _ _; rw [HSF.out]; exact HDN.2.1
              have HONE : Hid ((outOf Sf vn1).toArray.all (·.oneCell') = true) := by show _ = _; rw [HSF.out]; exact HDN.2.2
              clear HDN HSF
              apply wp_region_lit
              refine wpList_plain rfl (fun K hK => ?_)
              go_simp
              refine hK _ _ ?_
              clear hK K
              refine wpList_plain rfl (fun K hK => ?_)
              go_simp
              refine hK _ _ ?_
              clear hK K
              refine wpList_plain rfl (fun K hK => ?_)
              go_simp
              refine hK _ _ ?_
              clear hK K
              refine wpList_load_mid rfl 28 _ rfl F.sb 17 rfl (outOf Sf vn1) _ HRG.out Tryz.underlying28 rfl (by kernel_rfl) ?_
              refine wpList_store_row rfl 28 _ _ rfl w.heap.size (outOf Sf vn1).toArray rfl rfl 28 _ HOZ.out (by kernel_rfl) rfl HONE.out ?_
              go_wp2
              refine bodyPost_ret (v := .agg (outOf Sf vn1).toArray) ?_ rfl ⟨vn1, rfl, HNF.out⟩
              exact results_cell_row Tryz.results7 _ _ w.heap.size 28 (outOf Sf vn1).toArray (0, 0) _ rfl (setRow_heap _ _ _ _ _ _ HOZ.out) Tryz.underlying28 rfl (by kernel_rfl)
          · have HST := hide2 hst
            have h4 : S1.steps ≠ 4096 := fun e => hst (hmf.2 (.inl e))
            have hfu : ¬ fuel ≤ (S1.steps : Int) := fun e => hst (hmf.2 (.inr e))
            have h4b : ((S1.steps : Int) == 4096) = false := by rw [beq_eq_false_iff_ne]; omega
            have hs4 : S1.steps < 4096 := by omega
            have f19 := HM2.out.blk.frozen 19
            have c16 : wc.cell? ⟨F.sb, 16, none⟩ = some (.int .i64 S1.pc) := HM2.out.c16
            have f16 := HM2.out.blk.frozen 16
            clear hst hmf h4
            go_upto_region 19 with (fail)
            obtain ⟨wd, hwd⟩ : ∃ wd, wd = (wc.setCell ⟨F.sb, 19, none⟩ (.int .i64 ((S1.steps : Int) + 1))).setCell ⟨F.sb, 16, none⟩ (.int .i64 ((S1.pc : Int) + 1)) := ⟨_, rfl⟩
            rw [← hwd]
            have HM3 : Hid (SRep F w2 wd vl1 vm1 vn1 da1 dcap1 (S1.stepped.goes (S1.pc + 1))) := by
              show SRep _ _ _ _ _ _ _ _ _
              have := (HM2.out.setSteps).setNext (S1.pc + 1)
              rw [hwd]
              exact this
            clear hwd c19 f19 c16 f16 HM2
            have HCR := hide2 HM3.out.codeR
            obtain ⟨g, off, hea, hg, hcd⟩ := HCR.out.cells (by omega)
            obtain ⟨d0, d1, d2, d3⟩ := hcd S1.pc hpl
            have q4 : wd.cell? ⟨w1.heap.size, 4, none⟩ = some (.slice (some ⟨g, off, none⟩) F.code.length F.icap) := by rw [← hea]; exact (HM3.out.below.cell (p := ⟨w1.heap.size, 4, none⟩) hp2).trans (HP3.out.cell (j := 4) rfl)
            have c20 : wd.cell? ⟨F.sb, 20, none⟩ = some (.int .i64 S1.pc) := HM3.out.c20
            have hmay := HMAY2.out S1.pc hpl
            have HMY := hide2 hmay
            have HNX := hide2 (fun (w' : World) (hd : SDone F w2 w' (mDo F.inp F.ds (S1.stepped.goes (S1.pc + 1)) (F.code.getD S1.pc Ins.no))) => HIN.out.next HP.out HST.out hs4 hmay hd)
            have HMS : Hid (mStep F.inp F.ds F.code S1 = if (mDo F.inp F.ds (S1.stepped.goes (S1.pc + 1)) (F.code.getD S1.pc Ins.no)).en = 0 then (mDo F.inp F.ds (S1.stepped.goes (S1.pc + 1)) (F.code.getD S1.pc Ins.no)).stands (mDo F.inp F.ds (S1.stepped.goes (S1.pc + 1)) (F.code.getD S1.pc Ins.no)).next else mDo F.inp F.ds (S1.stepped.goes (S1.pc + 1)) (F.code.getD S1.pc Ins.no)) := rfl
            generalize F.code.getD S1.pc Ins.no = x at *
            obtain ⟨xo, xa, xb, xc⟩ := x
            simp only at d0 d1 d2 d3
            have e0 : wd.cell? ⟨g, off + S1.pc * 4, none⟩ = some (.int .i64 xo) := (HM3.out.below.cell (p := ⟨g, off + S1.pc * 4, none⟩) hg).trans d0
            have e1 : wd.cell? ⟨g, off + S1.pc * 4 + 1, none⟩ = some (.int .i64 xa) := (HM3.out.below.cell (p := ⟨g, off + S1.pc * 4 + 1, none⟩) hg).trans d1
            have e2 : wd.cell? ⟨g, off + S1.pc * 4 + 2, none⟩ = some (.int .i64 xb) := (HM3.out.below.cell (p := ⟨g, off + S1.pc * 4 + 2, none⟩) hg).trans d2
            have e3 : wd.cell? ⟨g, off + S1.pc * 4 + 3, none⟩ = some (.int .i64 xc) := (HM3.out.below.cell (p := ⟨g, off + S1.pc * 4 + 3, none⟩) hg).trans d3
            have HD0 := hide2 d0
            have HD1 := hide2 d1
            have HD2 := hide2 d2
            have HD3 := hide2 d3
            have hout := HIN.out.o1
            have hdn := HIN.out.d1
            have hl1 := HIN.out.l1
            have hm1 := HIN.out.m1
            have HPC : Hid ((mDo F.inp F.ds (S1.stepped.goes (S1.pc + 1)) ⟨xo, xa, xb, xc⟩).pc = S1.pc) := mDo_pc _ _ _ _
            have hpI : (S1.pc : Int) < (F.code.length : Int) := by omega
            clear hcd d0 d1 d2 d3 hmay
            generalize hS2 : mDo F.inp F.ds (S1.stepped.goes (S1.pc + 1)) ⟨xo, xa, xb, xc⟩ = S2 at *
            have HS2 := hide2 hS2
            clear hS2
            generalize hpc : S1.pc = pc at *
            go_region_held3 (fun w' => w'.cell? ⟨w1.heap.size, 4, none⟩ = some (.slice (some ⟨g, off, none⟩) F.code.length F.icap) ∧ w'.cell? ⟨F.sb, 20, none⟩ = some (.int .i64 pc) ∧ w'.cell? ⟨g, off + pc * 4, none⟩ = some (.int .i64 xo) ∧ w'.cell? ⟨g, off + pc * 4 + 1, none⟩ = some (.int .i64 xa) ∧ w'.cell? ⟨g, off + pc * 4 + 2, none⟩ = some (.int .i64 xb) ∧ w'.cell? ⟨g, off + pc * 4 + 3, none⟩ = some (.int .i64 xc)) (go_keep)
              (first | (go_at_call 20; refine (sdo_any F w2 wd.drew vl1 vm1 vn1 da1 dcap1 _ ⟨xo, xa, xb, xc⟩ F.code.length (HM3.out.under ((Below.refl _ _).drew)) HMY.out hi2 (by show S1.out.size ≤ _; omega) (by show S1.drawn ≤ _; omega) (by show S1.R.log.length ≤ _; omega) (by show S1.R.marks.length ≤ _; omega)).mono ?_; rintro e4 w5 ⟨rfl, hd5⟩; rw [HS2.out] at hd5; have HD5 := hide2 hd5; clear hd5; obtain ⟨vl5, vm5, vn5, da5, dcap5, r5, hm5, -⟩ := HD5.out; have HM5 := hide2 hm5; clear hm5; have k4 : w5.cell? ⟨w1.heap.size, 4, none⟩ = some (.slice (some ⟨g, off, none⟩) F.code.length F.icap) := (by rw [← hea]; exact (HM5.out.below.cell (p := ⟨w1.heap.size, 4, none⟩) hp2).trans (HP3.out.cell (j := 4) rfl)); have k20 : w5.cell? ⟨F.sb, 20, none⟩ = some (.int .i64 pc) := (by rw [← HPC.out]; exact HM5.out.c20); have k0 := (HM5.out.below.cell (p := ⟨g, off + pc * 4, none⟩) hg).trans HD0.out; have k1' := (HM5.out.below.cell (p := ⟨g, off + pc * 4 + 1, none⟩) hg).trans HD1.out; have k2 := (HM5.out.below.cell (p := ⟨g, off + pc * 4 + 2, none⟩) hg).trans HD2.out; have k3 := (HM5.out.below.cell (p := ⟨g, off + pc * 4 + 3, none⟩) hg).trans HD3.out))
            clear q4 c20 e0 e1 e2 e3 k4 k20 k0 k1' k2 k3
            have c17 : w5.cell? ⟨F.sb, 17, none⟩ = some (.int .i64 S2.en) := HM5.out.c17
            by_cases he : S2.en = 0
            · rw [he] at c17
              obtain ⟨vl6, vm6, vn6, da6, dcap6, S6, k6, pc6, hin6, hst6⟩ := HNX.out w5 HD5.out he
              have HIN6 := hide2 hin6
              have HST6 := hide2 hst6
              clear hin6 hst6 he
              go_wp2
              go_roundw
              case rel => exact ⟨_, _, _, _, _, _, _, _, HIN6.out⟩
              case measure =>
                have h1 : sSteps w5 F.sb = S6.steps := HIN6.out.rep.sSteps
                rw [HSS.out, h1, HST6.out]
                omega
            · have hne : (S2.en != 0) = true := by simpa using he
              have HNE := hide2 he
              rw [if_neg he] at HMS
              clear he
              go_upto_region 21 with (fail)
              generalize vn5 = vn1 at *
              have HSF : Hid (Sf = S2) := by show _ = _; rw [← HMS.out, ← HIN.out.comes]; obtain ⟨k', rfl⟩ : ∃ k', k = k' + 1 := ⟨k - 1, by omega⟩; rw [mRun_step HIN.out.en (by rw [hpc]; exact HP.out) (Int.not_le.2 HST.out), mRun_en (by rw [HMS.out]; exact HNE.out)]
              have HRG : Hid (w5.rangeAt F.sb 17 (outOf Sf vn1)) := by show World.rangeAt _ _ _ _; rw [HSF.out]; exact HM5.out.outcome
              have HDN := row_done HM5.out HO2.out HBL2.out
              have HOZ := hide2 HDN.1
              have HNF : Hid (NearRel w Sf.rep.near vn1 (w5.setRow w.heap.size (outOf Sf vn1).toArray)) := by show NearRel _ _ _ _; rw [HSF.out]; exact HDN.2.1
              have HONE : Hid ((outOf Sf vn1).toArray.all (·.oneCell') = true) := by show _ = _; rw [HSF.out]; exact HDN.2.2
              clear HDN HSF
              apply wp_region_lit
              refine wpList_plain rfl (fun K hK => ?_)
              go_simp
              refine hK _ _ ?_
              clear hK K
              refine wpList_plain rfl (fun K hK => ?_)
              go_simp
              refine hK _ _ ?_
              clear hK K
              refine wpList_plain rfl (fun K hK => ?_)
              go_simp
              refine hK _ _ ?_
              clear hK K
              refine wpList_load_mid rfl 28 _ rfl F.sb 17 rfl (outOf Sf vn1) _ HRG.out Tryz.underlying28 rfl (by kernel_rfl) ?_
              refine wpList_store_row rfl 28 _ _ rfl w.heap.size (outOf Sf vn1).toArray rfl rfl 28 _ HOZ.out (by kernel_rfl) rfl HONE.out ?_
              go_wp2
              refine bodyPost_ret (v := .agg (outOf Sf vn1).toArray) ?_ rfl ⟨vn1, rfl, HNF.out⟩
              exact results_cell_row Tryz.results7 _ _ w.heap.size 28 (outOf Sf vn1).toArray (0, 0) _ rfl (setRow_heap _ _ _ _ _ _ HOZ.out) Tryz.underlying28 rfl (by kernel_rfl)
end Go.Proofs.YtjikemhmnkckcabGreat
