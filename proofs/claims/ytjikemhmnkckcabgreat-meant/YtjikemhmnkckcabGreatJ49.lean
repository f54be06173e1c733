import Derived.Test.YtjikemhmnkckcabGreatJ46
namespace Go.Proofs.YtjikemhmnkckcabGreat
open Go.RowKit
attribute [local go_sem ↓] Go.wp_at_zero Go.wp_at_succ
def endOf (w : World) (mb : Nat) : Int := match w.cell? ⟨mb, 18, none⟩ with
 | some (.int _ k) => k
 | _ => 0
def mRun (inp : ByteArray) (ds : List Int) (code : List Ins) (f : Int) : Nat → MS → MS
 | 0, S => S
 | k + 1, S => if S.en ≠ 0 then S else if code.length ≤ S.pc then S.ends 2 else if f ≤ S.steps then S.ends 3 else mRun inp ds code f k (mStep inp ds code S)
theorem mRun_en {inp : ByteArray} {ds : List Int} {code : List Ins} {f : Int} {S : MS} (h : S.en ≠ 0) (k : Nat) : mRun inp ds code f k S = S := by
 cases k with
 | zero => rfl
 | succ k => show (if S.en ≠ 0 then S else _) = S; rw [if_pos h]
theorem mRun_over {inp : ByteArray} {ds : List Int} {code : List Ins} {f : Int} {S : MS} (h : S.en = 0) (hp : code.length ≤ S.pc) {k : Nat} (hk : 0 < k) : mRun inp ds code f k S = S.ends 2 := by
 cases k with
 | zero => omega
 | succ k => show (if S.en ≠ 0 then S else if _ then _ else _) = _; rw [if_neg (by simpa using h), if_pos hp]
theorem mRun_out {inp : ByteArray} {ds : List Int} {code : List Ins} {f : Int} {S : MS} (h : S.en = 0) (hp : ¬ code.length ≤ S.pc) (hf : f ≤ S.steps) {k : Nat} (hk : 0 < k) : mRun inp ds code f k S = S.ends 3 := by
 cases k with
 | zero => omega
 | succ k => show (if S.en ≠ 0 then S else if _ then _ else if _ then _ else _) = _; rw [if_neg (by simpa using h), if_neg hp, if_pos hf]
theorem mRun_step {inp : ByteArray} {ds : List Int} {code : List Ins} {f : Int} {S : MS} (h : S.en = 0) (hp : ¬ code.length ≤ S.pc) (hf : ¬ f ≤ S.steps) (k : Nat) : mRun inp ds code f (k + 1) S = mRun inp ds code f k (mStep inp ds code S) := by
 show (if S.en ≠ 0 then S else if _ then _ else if _ then _ else _) = _; rw [if_neg (by simpa using h), if_neg hp, if_neg hf]
theorem mDo_out (inp : ByteArray) (ds : List Int) (S : MS) (x : Ins) : (mDo inp ds S x).out.size ≤ S.out.size + 1 := by
 unfold mDo dZero dOut dMalloc dFree dRealloc dUsable dLoad dStore dMove
 repeat' (refine ite_of (P := fun S' : MS => S'.out.size ≤ S.out.size + 1) (fun _ => ?_) (fun _ => ?_))
 all_goals first | exact Nat.le_succ _ | (show (S.out ++ bOne _).size ≤ _; rw [ByteArray.size_append, bOne_size]; exact Nat.le_refl _)
theorem mStep_steps (inp : ByteArray) (ds : List Int) (code : List Ins) (S : MS) : (mStep inp ds code S).steps = S.steps + 1 := by
 unfold mStep;refine ite_of (P := fun S' : MS => S'.steps = S.steps + 1) (fun _ => ?_) (fun _ => ?_)
 ·exact (mDo_steps inp ds (S.stepped.goes (S.pc + 1)) _)
 ·exact (mDo_steps inp ds (S.stepped.goes (S.pc + 1)) _)
theorem mStep_out (inp : ByteArray) (ds : List Int) (code : List Ins) (S : MS) : (mStep inp ds code S).out.size ≤ S.out.size + 1 := by
 unfold mStep;refine ite_of (P := fun S' : MS => S'.out.size ≤ S.out.size + 1) (fun _ => ?_) (fun _ => ?_)
 ·exact (mDo_out inp ds (S.stepped.goes (S.pc + 1)) _)
 ·exact (mDo_out inp ds (S.stepped.goes (S.pc + 1)) _)
def stepsOf (w : World) (mb : Nat) : Nat := match w.cell? ⟨mb, 17, none⟩ with
 | some (.int _ k) => k.toNat
 | _ => 0
theorem MRep.endOf {F : MFix} {wB w : World} {G : GSt} {vo vn : Value} {S : MS} (h : MRep F wB w G vo vn S) : endOf w F.mb = S.en := by unfold Go.Proofs.YtjikemhmnkckcabGreat.endOf; rw [h.c18]
theorem MRep.stepsOf {F : MFix} {wB w : World} {G : GSt} {vo vn : Value} {S : MS} (h : MRep F wB w G vo vn S) : stepsOf w F.mb = S.steps := by unfold Go.Proofs.YtjikemhmnkckcabGreat.stepsOf; rw [h.c17]; simp
structure RunIn (F : MFix) (wB w : World) (f : Int) (Sf : MS) (G : GSt) (vo vn : Value) (S : MS) (k : Nat) : Prop where
 rep : MRep F wB w G vo vn S
 s1 : S.steps ≤ 4096
 o1 : S.out.size ≤ S.steps
 k1 : 4097 ≤ S.steps + k
 comes : mRun F.inp F.ds F.code f k S = Sf
def mFuel (fuel : Int) : Int := if 4096 < fuel then 4096 else fuel
set_option maxRecDepth 100000 in
set_option maxHeartbeats 3200000 in
theorem run_any (F : MFix) (wB w : World) (G : GSt) (vo vn : Value) (S : MS) (fuel : Int) (h : MRep F wB w G vo vn S) (hcode : ∀ i, i < F.code.length → ∃ n, (F.code.getD i Ins.no).may n = true) (hi : (F.inp.size : Int) ≤ 9223372036854775807) (hl : F.code.length ≤ 1048576) (hs : S.steps = 0) (ho : S.out.size = 0) :
 Calls Tryz.prog 15 #[.pointer (some ⟨F.mb, 0, none⟩), .int .i64 fuel] w fun e w' => e = .returned (.tuple #[]) ∧ ∃ G' vo' vn', MRep F wB w' G' vo' vn' (mRun F.inp F.ds F.code (mFuel fuel) 4097 S) := by
 have H0 : Hid (∃ G vo vn S1 k, RunIn F wB w (mFuel fuel) (mRun F.inp F.ds F.code (mFuel fuel) 4097 S) G vo vn S1 k) := ⟨G, vo, vn, S, 4097, h, by omega, by omega, by omega, rfl⟩
 have HCODE := hide2 hcode;generalize mRun F.inp F.ds F.code (mFuel fuel) 4097 S = Sf at *;clear h hcode hs ho;go_enter Tryz.func15, Tryz.ntmps15
 by_cases hf : 4096 < fuel
 ·rw [show mFuel fuel = 4096 from if_pos hf] at H0;go_wp2
  go_loopw [] (fun wr => Hid (∃ G vo vn S1 k, RunIn F wB wr 4096 Sf G vo vn S1 k)) (fun wr => if endOf wr F.mb = 0 then 1 + (4097 - stepsOf wr F.mb) else 0)
  case atStart => exact H0
  case round =>
   obtain ⟨G1, vo1, vn1, S1, k, hin⟩ := hrel.out;have HIN := hide2 hin;have HE := hide2 hin.rep.endOf;have HS := hide2 hin.rep.stepsOf;have c1 := hin.rep.c1;have c15 := hin.rep.c15;have c17 := hin.rep.c17;have c18 := hin.rep.c18;have f18 := hin.rep.blk.frozen 18;have s1 := hin.s1;have k1 := hin.k1;clear hrel hin
   by_cases hen : S1.en = 0
   ·have HEN := hide2 hen;rw [hen] at c18 HE
    by_cases hp : F.code.length ≤ S1.pc
    ·have hpI : (F.code.length : Int) ≤ (S1.pc : Int) := by omega
     have HP := hide2 hp;clear hen hp;go_wp2
     go_quiet (fail)
     go_wp2;have HM2 := fun q => (HIN.out.rep.under (below_drewN (Below.refl wr.heap.size wr) q)).setEn 2
     go_roundw
     case rel => exact ⟨_, _, _, _, k, HM2 _, HIN.out.s1, HIN.out.o1, HIN.out.k1, by rw [mRun_en (by show (2 : Int) ≠ 0; omega), ← HIN.out.comes, mRun_over HEN.out HP.out (by omega)]⟩
     case measure =>
      rw [HE.out];have hh := fun q => (HM2 q).endOf
      simp [hh, MS.ends]; omega
    ·have hpI : ¬ (F.code.length : Int) ≤ (S1.pc : Int) := by omega
     have HP := hide2 hp;clear hen
     by_cases hst : 4096 ≤ (S1.steps : Int)
     ·have HST := hide2 hst;clear hp;go_wp2
      go_quiet (fail)
      go_wp2;have HM2 := fun q => (HIN.out.rep.under (below_drewN (Below.refl wr.heap.size wr) q)).setEn 3
      go_roundw
      case rel => exact ⟨_, _, _, _, k, HM2 _, HIN.out.s1, HIN.out.o1, HIN.out.k1, by rw [mRun_en (by show (3 : Int) ≠ 0; omega), ← HIN.out.comes, mRun_out HEN.out HP.out HST.out (by omega)]⟩
      case measure =>
       rw [HE.out];have hh := fun q => (HM2 q).endOf
       simp [hh, MS.ends]; omega
     ·have HST := hide2 hst;have hs2 : S1.steps < 4096 := by omega
      obtain ⟨nn, hmay⟩ := HCODE.out S1.pc (by omega);have HMAY := hide2 hmay;have o1 := HIN.out.o1;have hpl : S1.pc < F.code.length := by omega
      clear hp hmay;go_wp2
      go_quiet (fail)
      go_wp2_with (go_at_call 29; refine (mstep_any F wB _ G1 vo1 vn1 S1 nn (HIN.out.rep.under (below_drewN (Below.refl wr.heap.size wr) _)) hpl HMAY.out hi (by omega) (by omega) hl).mono ?_; rintro e2 w2 ⟨rfl, G2, vo2, vn2, hm2⟩; have HM2 := hide2 hm2; clear hm2)
      go_roundw
      case rel =>
       obtain ⟨k', rfl⟩ : ∃ k', k = k' + 1 := ⟨k - 1, by omega⟩
       have hst1 := mStep_steps F.inp F.ds F.code S1;have hot1 := mStep_out F.inp F.ds F.code S1;exact ⟨_, _, _, _, k', HM2.out, by omega, by omega, by omega, by rw [← HIN.out.comes, mRun_step HEN.out HP.out (Int.not_le.2 HST.out)]⟩
      case measure =>
       rw [HE.out, HS.out, HM2.out.stepsOf, mStep_steps]
       split <;> simp <;> omega
   ·have HEN := hide2 hen;have hne : (S1.en == 0) = false := by rw [beq_eq_false_iff_ne]; exact hen
    clear hen;go_wp2;go_end0;have hc := HIN.out.comes;rw [mRun_en HEN.out] at hc;exact ⟨rfl, G1, vo1, vn1, by rw [← hc]; exact HIN.out.rep⟩
 ·rw [show mFuel fuel = fuel from if_neg hf] at H0;go_wp2
  go_loopw [] (fun wr => Hid (∃ G vo vn S1 k, RunIn F wB wr fuel Sf G vo vn S1 k)) (fun wr => if endOf wr F.mb = 0 then 1 + (4097 - stepsOf wr F.mb) else 0)
  case atStart => exact H0
  case round =>
   obtain ⟨G1, vo1, vn1, S1, k, hin⟩ := hrel.out;have HIN := hide2 hin;have HE := hide2 hin.rep.endOf;have HS := hide2 hin.rep.stepsOf;have c1 := hin.rep.c1;have c15 := hin.rep.c15;have c17 := hin.rep.c17;have c18 := hin.rep.c18;have f18 := hin.rep.blk.frozen 18;have s1 := hin.s1;have k1 := hin.k1;clear hrel hin
   by_cases hen : S1.en = 0
   ·have HEN := hide2 hen;rw [hen] at c18 HE
    by_cases hp : F.code.length ≤ S1.pc
    ·have hpI : (F.code.length : Int) ≤ (S1.pc : Int) := by omega
     have HP := hide2 hp;clear hen hp;go_wp2
     go_quiet (fail)
     go_wp2;have HM2 := fun q => (HIN.out.rep.under (below_drewN (Below.refl wr.heap.size wr) q)).setEn 2
     go_roundw
     case rel => exact ⟨_, _, _, _, k, HM2 _, HIN.out.s1, HIN.out.o1, HIN.out.k1, by rw [mRun_en (by show (2 : Int) ≠ 0; omega), ← HIN.out.comes, mRun_over HEN.out HP.out (by omega)]⟩
     case measure =>
      rw [HE.out];have hh := fun q => (HM2 q).endOf
      simp [hh, MS.ends]; omega
    ·have hpI : ¬ (F.code.length : Int) ≤ (S1.pc : Int) := by omega
     have HP := hide2 hp;clear hen
     by_cases hst : fuel ≤ (S1.steps : Int)
     ·have HST := hide2 hst;clear hp;go_wp2
      go_quiet (fail)
      go_wp2;have HM2 := fun q => (HIN.out.rep.under (below_drewN (Below.refl wr.heap.size wr) q)).setEn 3
      go_roundw
      case rel => exact ⟨_, _, _, _, k, HM2 _, HIN.out.s1, HIN.out.o1, HIN.out.k1, by rw [mRun_en (by show (3 : Int) ≠ 0; omega), ← HIN.out.comes, mRun_out HEN.out HP.out HST.out (by omega)]⟩
      case measure =>
       rw [HE.out];have hh := fun q => (HM2 q).endOf
       simp [hh, MS.ends]; omega
     ·have HST := hide2 hst;have hs2 : S1.steps < 4096 := by omega
      obtain ⟨nn, hmay⟩ := HCODE.out S1.pc (by omega);have HMAY := hide2 hmay;have o1 := HIN.out.o1;have hpl : S1.pc < F.code.length := by omega
      clear hp hmay;go_wp2
      go_quiet (fail)
      go_wp2_with (go_at_call 29; refine (mstep_any F wB _ G1 vo1 vn1 S1 nn (HIN.out.rep.under (below_drewN (Below.refl wr.heap.size wr) _)) hpl HMAY.out hi (by omega) (by omega) hl).mono ?_; rintro e2 w2 ⟨rfl, G2, vo2, vn2, hm2⟩; have HM2 := hide2 hm2; clear hm2)
      go_roundw
      case rel =>
       obtain ⟨k', rfl⟩ : ∃ k', k = k' + 1 := ⟨k - 1, by omega⟩
       have hst1 := mStep_steps F.inp F.ds F.code S1;have hot1 := mStep_out F.inp F.ds F.code S1;exact ⟨_, _, _, _, k', HM2.out, by omega, by omega, by omega, by rw [← HIN.out.comes, mRun_step HEN.out HP.out (Int.not_le.2 HST.out)]⟩
      case measure =>
       rw [HE.out, HS.out, HM2.out.stepsOf, mStep_steps]
       split <;> simp <;> omega
   ·have HEN := hide2 hen;have hne : (S1.en == 0) = false := by rw [beq_eq_false_iff_ne]; exact hen
    clear hen;go_wp2;go_end0;have hc := HIN.out.comes;rw [mRun_en HEN.out] at hc;exact ⟨rfl, G1, vo1, vn1, by rw [← hc]; exact HIN.out.rep⟩
end Go.Proofs.YtjikemhmnkckcabGreat
namespace Go.Proofs.YtjikemhmnkckcabGreat
open Go.RowKit
section
variable {st rest : Int} {cls : List (Int × Int)} {e : ByteArray} {code : List Ins}
theorem img1_at (s0 : 0 ≤ st) (s1 : st ≤ 255) (r0 : 0 ≤ rest) (r1 : rest ≤ 255) (n1 : cls.length ≤ 255) : byteAt (img1 st rest cls) 2 = st ∧ byteAt (img1 st rest cls) 3 = rest ∧ byteAt (img1 st rest cls) 4 = cls.length := by
 unfold img1;have e2 : (⟨#[71, 82]⟩ : ByteArray).size = 2 := rfl;have h3 : ((⟨#[71, 82]⟩ : ByteArray) ++ bOne st).size = 3 := by rw [ByteArray.size_append, e2]; rfl
 have h4 : ((⟨#[71, 82]⟩ : ByteArray) ++ bOne st ++ bOne rest).size = 4 := by rw [ByteArray.size_append, h3]; rfl
 refine ⟨?_, ?_, ?_⟩
 ·rw [byteAt_app _ _ _ (by omega), byteAt_app _ _ _ (by omega)];exact byteAt_app_one _ st s0 s1
 ·rw [byteAt_app _ _ _ (by omega), ← h3];exact byteAt_app_one _ rest r0 r1
 ·rw [← h4];exact byteAt_app_one _ (cls.length : Int) (by omega) (by omega)
theorem img2_at (hg : ∀ i, i < cls.length → (0 ≤ Cf.gr cls i ∧ Cf.gr cls i ≤ 255) ∧ 0 ≤ Cf.sl cls i ∧ Cf.sl cls i ≤ 255) (m i : Nat) (hm : m ≤ cls.length) (hi : i < m) : byteAt (img2 st rest cls m) (5 + 2 * i) = Cf.gr cls i ∧ byteAt (img2 st rest cls m) (6 + 2 * i) = Cf.sl cls i := by
 induction m with
 | zero => omega
 | succ m ih =>
   unfold img2;have hs := img2_size st rest cls m;have hs2 : (img2 st rest cls m ++ bOne (Cf.gr cls m)).size = 6 + 2 * m := by rw [ByteArray.size_append, bOne_size, hs]; omega
   by_cases h : i = m
   ·subst h;refine ⟨?_, ?_⟩
    ·rw [byteAt_app _ _ _ (by omega), ← hs];exact byteAt_app_one _ _ (hg i (by omega)).1.1 (hg i (by omega)).1.2
    ·rw [← hs2];exact byteAt_app_one _ _ (hg i (by omega)).2.1 (hg i (by omega)).2.2
   ·have := ih (by omega) (by omega);rw [byteAt_app _ _ _ (by omega), byteAt_app _ _ _ (by omega), byteAt_app _ _ _ (by omega), byteAt_app _ _ _ (by omega)];exact this
theorem byteAt_right (b c : ByteArray) (j : Nat) : byteAt (b ++ c) (b.size + j) = byteAt c j := by
 unfold byteAt;rw [app_list, List.getElem?_append_right (by simp)];simp
theorem img3_at (he : e.size ≤ 255) (n : Nat) (hn : n ≤ 255) : byteAt (img3 st rest cls e n) (5 + 2 * cls.length) = e.size ∧ (∀ j, j < e.size → byteAt (img3 st rest cls e n) (6 + 2 * cls.length + j) = byteAt e j) ∧ byteAt (img3 st rest cls e n) (6 + 2 * cls.length + e.size) = n := by
 have hs := img2_size st rest cls cls.length;have hs2 : (img2 st rest cls cls.length ++ bOne (e.size : Int)).size = 6 + 2 * cls.length := by rw [ByteArray.size_append, bOne_size, hs]; omega
 have hs3 : (img2 st rest cls cls.length ++ bOne (e.size : Int) ++ e).size = 6 + 2 * cls.length + e.size := by rw [ByteArray.size_append, hs2]
 refine ⟨img3_len _ _ _ _ _ he, fun j hj => ?_, ?_⟩
 ·unfold img3;rw [byteAt_app _ _ _ (by omega), ← hs2];exact byteAt_right _ _ j
 ·unfold img3;rw [← hs3];exact byteAt_app_one _ (n : Int) (by omega) (by omega)
theorem img3_cls (n : Nat) (k : Nat) (hk : k < 5 + 2 * cls.length) : byteAt (img3 st rest cls e n) k = byteAt (img2 st rest cls cls.length) k := by
 have hs := img2_size st rest cls cls.length;unfold img3;rw [byteAt_app _ _ _ (by simp only [ByteArray.size_append, bOne_size]; omega), byteAt_app _ _ _ (by simp only [ByteArray.size_append, bOne_size]; omega), byteAt_app _ _ _ (by omega)]
theorem img4_at (hb : ∀ i, i < code.length → (0 ≤ (code.getD i Ins.no).op ∧ (code.getD i Ins.no).op ≤ 255) ∧ (0 ≤ (code.getD i Ins.no).a ∧ (code.getD i Ins.no).a ≤ 255) ∧ (0 ≤ (code.getD i Ins.no).b ∧ (code.getD i Ins.no).b ≤ 255) ∧ (0 ≤ (code.getD i Ins.no).c ∧ (code.getD i Ins.no).c ≤ 255)) (t i : Nat) (ht : t ≤ code.length) (hi : i < t) :
 byteAt (img4 st rest cls e code t) (7 + 2 * cls.length + e.size + 4 * i) = (code.getD i Ins.no).op ∧ byteAt (img4 st rest cls e code t) (7 + 2 * cls.length + e.size + 4 * i + 1) = (code.getD i Ins.no).a ∧ byteAt (img4 st rest cls e code t) (7 + 2 * cls.length + e.size + 4 * i + 2) = (code.getD i Ins.no).b ∧ byteAt (img4 st rest cls e code t) (7 + 2 * cls.length + e.size + 4 * i + 3) = (code.getD i Ins.no).c := by
 induction t with
 | zero => omega
 | succ t ih =>
   unfold img4;have hs := img4_size st rest cls e code t;have hs1 : (img4 st rest cls e code t ++ bOne (code.getD t Ins.no).op).size = 7 + 2 * cls.length + e.size + 4 * t + 1 := by rw [ByteArray.size_append, bOne_size, hs]
   have hs2 : (img4 st rest cls e code t ++ bOne (code.getD t Ins.no).op ++ bOne (code.getD t Ins.no).a).size = 7 + 2 * cls.length + e.size + 4 * t + 2 := by rw [ByteArray.size_append, bOne_size, hs1]
   have hs3 : (img4 st rest cls e code t ++ bOne (code.getD t Ins.no).op ++ bOne (code.getD t Ins.no).a ++ bOne (code.getD t Ins.no).b).size = 7 + 2 * cls.length + e.size + 4 * t + 3 := by rw [ByteArray.size_append, bOne_size, hs2]
   by_cases h : i = t
   ·subst h;obtain ⟨o, a, b, c⟩ := hb i (by omega);refine ⟨?_, ?_, ?_, ?_⟩
    ·rw [byteAt_app _ _ _ (by omega), byteAt_app _ _ _ (by omega), byteAt_app _ _ _ (by omega), ← hs];exact byteAt_app_one _ _ o.1 o.2
    ·rw [byteAt_app _ _ _ (by omega), byteAt_app _ _ _ (by omega), ← hs1];exact byteAt_app_one _ _ a.1 a.2
    ·rw [byteAt_app _ _ _ (by omega), ← hs2];exact byteAt_app_one _ _ b.1 b.2
    ·rw [← hs3];exact byteAt_app_one _ _ c.1 c.2
   ·have := ih (by omega) (by omega);rw [byteAt_app _ _ _ (by omega), byteAt_app _ _ _ (by omega), byteAt_app _ _ _ (by omega), byteAt_app _ _ _ (by omega), byteAt_app _ _ _ (by omega), byteAt_app _ _ _ (by omega), byteAt_app _ _ _ (by omega), byteAt_app _ _ _ (by omega), byteAt_app _ _ _ (by omega), byteAt_app _ _ _ (by omega), byteAt_app _ _ _ (by omega), byteAt_app _ _ _ (by omega), byteAt_app _ _ _ (by omega), byteAt_app _ _ _ (by omega), byteAt_app _ _ _ (by omega), byteAt_app _ _ _ (by omega)];exact this
end
theorem img_back {st rest : Int} {cls : List (Int × Int)} {e : ByteArray} {code : List Ins} (hs : soundB st rest cls e.size code = true) :
 let s := img4 st rest cls e code code.length
 imgB s = true ∧ byteAt s 2 = st ∧ byteAt s 3 = rest ∧ pCls s = cls ∧ pData s = e ∧ pCode s = code ∧ s.size = pEnd s := by
 intro s
 have hval : Cf.Valid st rest cls := by
  refine Cf.valid_of ?_;unfold soundB at hs;simp only [Bool.and_eq_true] at hs;exact hs.1.1
 have hd : e.size ≤ 255 ∧ withinB code.length 1 255 = true ∧ codeB code code.length = true := by
  unfold soundB at hs;simp only [Bool.and_eq_true, decide_eq_true_eq] at hs;exact ⟨hs.1.2.1, hs.2.1, hs.2.2⟩
 have hn : code.length ≤ 255 := by have := hd.2.1; unfold withinB at this; simp at this; omega
 have he := hd.1;have st0 := hval.st0;have st1 := hval.st1;have re0 := hval.re0;have re1 := hval.re1;have n1 := hval.n1
 have hg : ∀ i, i < cls.length → (0 ≤ Cf.gr cls i ∧ Cf.gr cls i ≤ 255) ∧ 0 ≤ Cf.sl cls i ∧ Cf.sl cls i ≤ 255 := fun i hi => by
  have := hval.g0 i hi;have := hval.g1 i hi;have := hval.s0 i hi;have := hval.s1 i hi;omega
 have hb : ∀ i, i < code.length → (0 ≤ (code.getD i Ins.no).op ∧ (code.getD i Ins.no).op ≤ 255) ∧ (0 ≤ (code.getD i Ins.no).a ∧ (code.getD i Ins.no).a ≤ 255) ∧ (0 ≤ (code.getD i Ins.no).b ∧ (code.getD i Ins.no).b ≤ 255) ∧ (0 ≤ (code.getD i Ins.no).c ∧ (code.getD i Ins.no).c ≤ 255) := fun i hi => may_bd (codeB_at hd.2.2 hi) (by omega)
 have hsize : s.size = 7 + 2 * cls.length + e.size + 4 * code.length := img4_size _ _ _ _ _ _;have hpre : ∀ k, k < 7 + 2 * cls.length + e.size → byteAt s k = byteAt (img3 st rest cls e code.length) k := fun k hk => img4_pre _ _ _ _ _ _ _ hk
 have h1 := img1_at (st := st) (rest := rest) (cls := cls) (by omega) (by omega) (by omega) (by omega) (by omega);have h5 : ∀ k, k < 5 → byteAt s k = byteAt (img1 st rest cls) k := fun k hk => by rw [hpre k (by omega), img3_pre _ _ _ _ _ _ hk]
 have hN : pN s = cls.length := by unfold pN; rw [h5 4 (by omega), h1.2.2]; simp
 have hD : pD s = 5 + 2 * cls.length := by unfold pD; rw [hN]
 have h3 := img3_at (st := st) (rest := rest) (cls := cls) (e := e) he code.length hn;have hM : pM s = e.size := by unfold pM; rw [hD, hpre _ (by omega), h3.1]; simp
 have hF : pF s = 6 + 2 * cls.length + e.size := by unfold pF; rw [hD, hM]; omega
 have hL : pL s = code.length := by unfold pL; rw [hF, hpre _ (by omega), h3.2.2]; simp
 have hE : pEnd s = s.size := by unfold pEnd; rw [hF, hL, hsize]; omega
 have hcls : pCls s = cls := by
  apply List.ext_getElem?;intro i;unfold pCls;rw [hN]
  by_cases hi : i < cls.length
  ·have h2 := img2_at (st := st) (rest := rest) hg cls.length i (Nat.le_refl _) hi;rw [List.getElem?_eq_getElem hi];simp only [List.getElem?_map, List.getElem?_range hi, Option.map_some];rw [hpre _ (by omega), hpre _ (by omega), img3_cls _ _ (by omega), img3_cls _ _ (by omega), h2.1, h2.2];simp [Cf.gr, Cf.sl, List.getD_eq_getElem?_getD, List.getElem?_eq_getElem hi]
  ·rw [List.getElem?_eq_none (by simp; omega), List.getElem?_eq_none (by omega)]
 have hcode : pCode s = code := by
  apply List.ext_getElem?;intro i;unfold pCode;rw [hL]
  by_cases hi : i < code.length
  ·have h4 := img4_at (st := st) (rest := rest) (cls := cls) (e := e) hb code.length i (Nat.le_refl _) hi;rw [List.getElem?_eq_getElem hi];simp only [List.getElem?_map, List.getElem?_range hi, Option.map_some];unfold pIns;rw [hF, show 6 + 2 * cls.length + e.size + 1 + 4 * i = 7 + 2 * cls.length + e.size + 4 * i by omega, h4.1, h4.2.1, h4.2.2.1, h4.2.2.2];simp [List.getD_eq_getElem?_getD, List.getElem?_eq_getElem hi]
  ·rw [List.getElem?_eq_none (by simp; omega), List.getElem?_eq_none (by omega)]
 have hdata : pData s = e := by
  unfold pData;rw [if_pos (by omega), ← pDataG_eq (by omega)];apply bext;show ((List.range (pM s)).map fun j => UInt8.ofNat (byteAt s (pD s + 1 + j)).toNat) = _;apply List.ext_getElem?;intro i;rw [hM, hD]
  by_cases hi : i < e.size
  ·simp only [List.getElem?_map, List.getElem?_range hi, Option.map_some];rw [hpre _ (by omega), show 5 + 2 * cls.length + 1 + i = 6 + 2 * cls.length + i by omega, h3.2.1 i hi, byteAt_list hi]
  ·rw [List.getElem?_eq_none (by simp; omega), List.getElem?_eq_none (by simp; omega)]
 have hst : byteAt s 2 = st := by rw [h5 2 (by omega), h1.1]
 have hre : byteAt s 3 = rest := by rw [h5 3 (by omega), h1.2.1]
 have hhead : pHead s = true := by
  unfold pHead;rw [h5 0 (by omega), h5 1 (by omega), (img1_head st rest cls).1, (img1_head st rest cls).2];rfl
 refine ⟨?_, hst, hre, hcls, hdata, hcode, hE.symm⟩;unfold imgB pSound;rw [hhead, hst, hre, hcls, hcode, hM, hs];simp [hE]
end Go.Proofs.YtjikemhmnkckcabGreat
namespace Go.Proofs.YtjikemhmnkckcabGreat
open Go.RowKit
attribute [local go_sem ↓] Go.wp_at_zero Go.wp_at_succ
def outC (en co st pc dr : Int) (o : ByteArray) (rep : List Value) : List Value := [.int .i64 en, .int .i64 co, .int .i64 st, .int .i64 pc, .int .i64 dr, .string o] ++ rep
def zRep : List Value := [.int .i64 0, .int .i64 0, .int .i64 0, .int .i64 0, .int .i64 0, .int .i64 0, .int .i64 0, .int .i64 0, .int .i64 0, .slice none 0 0]
end Go.Proofs.YtjikemhmnkckcabGreat
