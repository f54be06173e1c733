import Derived.Test.YtjikemhmnkckcabGreatJ36
import Derived.Test.YtjikemhmnkckcabGreatJ39
import Derived.Test.YtjikemhmnkckcabGreatJ45
/- A program is read back from its image; a part of an image is none, nor is one with a byte behind it. -/
namespace Go.Proofs.YtjikemhmnkckcabGreat
open Go.RowKit

section
variable {st rest : Int} {cls : List (Int × Int)} {e : ByteArray} {code : List Ins}
theorem img1_at (s0 : 0 ≤ st) (s1 : st ≤ 255) (r0 : 0 ≤ rest) (r1 : rest ≤ 255) (n1 : cls.length ≤ 255) : byteAt (img1 st rest cls) 2 = st ∧ byteAt (img1 st rest cls) 3 = rest ∧ byteAt (img1 st rest cls) 4 = cls.length := by
  unfold img1
  have e2 : (⟨#[71, 82]⟩ : ByteArray).size = 2 := rfl
  have h3 : ((⟨#[71, 82]⟩ : ByteArray) ++ bOne st).size = 3 := by rw [ByteArray.size_append, e2]; rfl
  have h4 : ((⟨#[71, 82]⟩ : ByteArray) ++ bOne st ++ bOne rest).size = 4 := by rw [ByteArray.size_append, h3]; rfl
  refine ⟨?_, ?_, ?_⟩
  · rw [byteAt_app _ _ _ (by omega), byteAt_app _ _ _ (by omega)]
    exact byteAt_app_one _ st s0 s1
  · rw [byteAt_app _ _ _ (by omega), ← h3]
    exact byteAt_app_one _ rest r0 r1
  · rw [← h4]
    exact byteAt_app_one _ (cls.length : Int) (by omega) (by omega)
theorem img2_at (hg : ∀ i, i < cls.length → (0 ≤ Cf.gr cls i ∧ Cf.gr cls i ≤ 255) ∧ 0 ≤ Cf.sl cls i ∧ Cf.sl cls i ≤ 255) (m i : Nat) (hm : m ≤ cls.length) (hi : i < m) : byteAt (img2 st rest cls m) (5 + 2 * i) = Cf.gr cls i ∧ byteAt (img2 st rest cls m) (6 + 2 * i) = Cf.sl cls i := by
  induction m with
  | zero => omega
  | succ m ih =>
    unfold img2
    have hs := img2_size st rest cls m
    have hs2 : (img2 st rest cls m ++ bOne (Cf.gr cls m)).size = 6 + 2 * m := by rw [ByteArray.size_append, bOne_size, hs]; omega
    by_cases h : i = m
    · subst h
      refine ⟨?_, ?_⟩
      · rw [byteAt_app _ _ _ (by omega), ← hs]
        exact byteAt_app_one _ _ (hg i (by omega)).1.1 (hg i (by omega)).1.2
      · rw [← hs2]
        exact byteAt_app_one _ _ (hg i (by omega)).2.1 (hg i (by omega)).2.2
    · have := ih (by omega) (by omega)
      rw [byteAt_app _ _ _ (by omega), byteAt_app _ _ _ (by omega), byteAt_app _ _ _ (by omega), byteAt_app _ _ _ (by omega)]
      exact this
theorem byteAt_right (b c : ByteArray) (j : Nat) : byteAt (b ++ c) (b.size + j) = byteAt c j := by
  unfold byteAt
  rw [app_list, List.getElem?_append_right (by simp)]
  simp
theorem img3_at (he : e.size ≤ 255) (n : Nat) (hn : n ≤ 255) : byteAt (img3 st rest cls e n) (5 + 2 * cls.length) = e.size ∧ (∀ j, j < e.size → byteAt (img3 st rest cls e n) (6 + 2 * cls.length + j) = byteAt e j) ∧ byteAt (img3 st rest cls e n) (6 + 2 * cls.length + e.size) = n := by
  have hs := img2_size st rest cls cls.length
  have hs2 : (img2 st rest cls cls.length ++ bOne (e.size : Int)).size = 6 + 2 * cls.length := by rw [ByteArray.size_append, bOne_size, hs]; omega
  have hs3 : (img2 st rest cls cls.length ++ bOne (e.size : Int) ++ e).size = 6 + 2 * cls.length + e.size := by rw [ByteArray.size_append, hs2]
  refine ⟨img3_len _ _ _ _ _ he, fun j hj => ?_, ?_⟩
  · unfold img3
    rw [byteAt_app _ _ _ (by omega), ← hs2]
    exact byteAt_right _ _ j
  · unfold img3
    rw [← hs3]
    exact byteAt_app_one _ (n : Int) (by omega) (by omega)
theorem img3_cls (n : Nat) (k : Nat) (hk : k < 5 + 2 * cls.length) : byteAt (img3 st rest cls e n) k = byteAt (img2 st rest cls cls.length) k := by
  have hs := img2_size st rest cls cls.length
  unfold img3
  rw [byteAt_app _ _ _ (by simp only [ByteArray.size_append, bOne_size]; omega), byteAt_app _ _ _ (by simp only [ByteArray.size_append, bOne_size]; omega), byteAt_app _ _ _ (by omega)]
theorem img4_at (hb : ∀ i, i < code.length → (0 ≤ (code.getD i Ins.no).op ∧ (code.getD i Ins.no).op ≤ 255) ∧ (0 ≤ (code.getD i Ins.no).a ∧ (code.getD i Ins.no).a ≤ 255) ∧ (0 ≤ (code.getD i Ins.no).b ∧ (code.getD i Ins.no).b ≤ 255) ∧ (0 ≤ (code.getD i Ins.no).c ∧ (code.getD i Ins.no).c ≤ 255)) (t i : Nat) (ht : t ≤ code.length) (hi : i < t) :
    byteAt (img4 st rest cls e code t) (7 + 2 * cls.length + e.size + 4 * i) = (code.getD i Ins.no).op ∧ byteAt (img4 st rest cls e code t) (7 + 2 * cls.length + e.size + 4 * i + 1) = (code.getD i Ins.no).a ∧ byteAt (img4 st rest cls e code t) (7 + 2 * cls.length + e.size + 4 * i + 2) = (code.getD i Ins.no).b ∧ byteAt (img4 st rest cls e code t) (7 + 2 * cls.length + e.size + 4 * i + 3) = (code.getD i Ins.no).c := by
  induction t with
  | zero => omega
  | succ t ih =>
    unfold img4
    have hs := img4_size st rest cls e code t
    have hs1 : (img4 st rest cls e code t ++ bOne (code.getD t Ins.no).op).size = 7 + 2 * cls.length + e.size + 4 * t + 1 := by rw [ByteArray.size_append, bOne_size, hs]
    have hs2 : (img4 st rest cls e code t ++ bOne (code.getD t Ins.no).op ++ bOne (code.getD t Ins.no).a).size = 7 + 2 * cls.length + e.size + 4 * t + 2 := by rw [ByteArray.size_append, bOne_size, hs1]
    have hs3 : (img4 st rest cls e code t ++ bOne (code.getD t Ins.no).op ++ bOne (code.getD t Ins.no).a ++ bOne (code.getD t Ins.no).b).size = 7 + 2 * cls.length + e.size + 4 * t + 3 := by rw [ByteArray.size_append, bOne_size, hs2]
    by_cases h : i = t
    · subst h
      obtain ⟨o, a, b, c⟩ := hb i (by omega)
      refine ⟨?_, ?_, ?_, ?_⟩
      · rw [byteAt_app _ _ _ (by omega), byteAt_app _ _ _ (by omega), byteAt_app _ _ _ (by omega), ← hs]
        exact byteAt_app_one _ _ o.1 o.2
      · rw [byteAt_app _ _ _ (by omega), byteAt_app _ _ _ (by omega), ← hs1]
        exact byteAt_app_one _ _ a.1 a.2
      · rw [byteAt_app _ _ _ (by omega), ← hs2]
        exact byteAt_app_one _ _ b.1 b.2
      · rw [← hs3]
        exact byteAt_app_one _ _ c.1 c.2
    · have := ih (by omega) (by omega)
      rw [byteAt_app _ _ _ (by omega), byteAt_app _ _ _ (by omega), byteAt_app _ _ _ (by omega), byteAt_app _ _ _ (by omega), byteAt_app _ _ _ (by omega), byteAt_app _ _ _ (by omega), byteAt_app _ _ _ (by omega), byteAt_app _ _ _ (by omega), byteAt_app _ _ _ (by omega), byteAt_app _ _ _ (by omega), byteAt_app _ _ _ (by omega), byteAt_app _ _ _ (by omega), byteAt_app _ _ _ (by omega), byteAt_app _ _ _ (by omega), byteAt_app _ _ _ (by omega), byteAt_app _ _ _ (by omega)]
      exact this
end

/-- What is read of the image of a sound program. -/
theorem img_back {st rest : Int} {cls : List (Int × Int)} {e : ByteArray} {code : List Ins} (hs : soundB st rest cls e.size code = true) :
    let s := img4 st rest cls e code code.length
    imgB s = true ∧ byteAt s 2 = st ∧ byteAt s 3 = rest ∧ pCls s = cls ∧ pData s = e ∧ pCode s = code ∧ s.size = pEnd s := by
  intro s
  have hval : Cf.Valid st rest cls := by
    refine Cf.valid_of ?_
    unfold soundB at hs
    simp only [Bool.and_eq_true] at hs
    exact hs.1.1
  have hd : e.size ≤ 255 ∧ withinB code.length 1 255 = true ∧ codeB code code.length = true := by
    unfold soundB at hs
    simp only [Bool.and_eq_true, decide_eq_true_eq] at hs
    exact ⟨hs.1.2.1, hs.2.1, hs.2.2⟩
  have hn : code.length ≤ 255 := by have := hd.2.1; unfold withinB at this; simp at this; omega
  have he := hd.1
  have st0 := hval.st0
  have st1 := hval.st1
  have re0 := hval.re0
  have re1 := hval.re1
  have n1 := hval.n1
  have hg : ∀ i, i < cls.length → (0 ≤ Cf.gr cls i ∧ Cf.gr cls i ≤ 255) ∧ 0 ≤ Cf.sl cls i ∧ Cf.sl cls i ≤ 255 := fun i hi => by
    have := hval.g0 i hi
    have := hval.g1 i hi
    have := hval.s0 i hi
    have := hval.s1 i hi
    omega
  have hb : ∀ i, i < code.length → (0 ≤ (code.getD i Ins.no).op ∧ (code.getD i Ins.no).op ≤ 255) ∧ (0 ≤ (code.getD i Ins.no).a ∧ (code.getD i Ins.no).a ≤ 255) ∧ (0 ≤ (code.getD i Ins.no).b ∧ (code.getD i Ins.no).b ≤ 255) ∧ (0 ≤ (code.getD i Ins.no).c ∧ (code.getD i Ins.no).c ≤ 255) := fun i hi => may_bd (codeB_at hd.2.2 hi) (by omega)
  have hsize : s.size = 7 + 2 * cls.length + e.size + 4 * code.length := img4_size _ _ _ _ _ _
  have hpre : ∀ k, k < 7 + 2 * cls.length + e.size → byteAt s k = byteAt (img3 st rest cls e code.length) k := fun k hk => img4_pre _ _ _ _ _ _ _ hk
  have h1 := img1_at (st := st) (rest := rest) (cls := cls) (by omega) (by omega) (by omega) (by omega) (by omega)
  have h5 : ∀ k, k < 5 → byteAt s k = byteAt (img1 st rest cls) k := fun k hk => by rw [hpre k (by omega), img3_pre _ _ _ _ _ _ hk]
  have hN : pN s = cls.length := by unfold pN; rw [h5 4 (by omega), h1.2.2]; simp
  have hD : pD s = 5 + 2 * cls.length := by unfold pD; rw [hN]
  have h3 := img3_at (st := st) (rest := rest) (cls := cls) (e := e) he code.length hn
  have hM : pM s = e.size := by unfold pM; rw [hD, hpre _ (by omega), h3.1]; simp
  have hF : pF s = 6 + 2 * cls.length + e.size := by unfold pF; rw [hD, hM]; omega
  have hL : pL s = code.length := by unfold pL; rw [hF, hpre _ (by omega), h3.2.2]; simp
  have hE : pEnd s = s.size := by unfold pEnd; rw [hF, hL, hsize]; omega
  have hcls : pCls s = cls := by
    apply List.ext_getElem?
    intro i
    unfold pCls
    rw [hN]
    by_cases hi : i < cls.length
    · have h2 := img2_at (st := st) (rest := rest) hg cls.length i (Nat.le_refl _) hi
      rw [List.getElem?_eq_getElem hi]
      simp only [List.getElem?_map, List.getElem?_range hi, Option.map_some]
      rw [hpre _ (by omega), hpre _ (by omega), img3_cls _ _ (by omega), img3_cls _ _ (by omega), h2.1, h2.2]
      simp [Cf.gr, Cf.sl, List.getD_eq_getElem?_getD, List.getElem?_eq_getElem hi]
    · rw [List.getElem?_eq_none (by simp; omega), List.getElem?_eq_none (by omega)]
  have hcode : pCode s = code := by
    apply List.ext_getElem?
    intro i
    unfold pCode
    rw [hL]
    by_cases hi : i < code.length
    · have h4 := img4_at (st := st) (rest := rest) (cls := cls) (e := e) hb code.length i (Nat.le_refl _) hi
      rw [List.getElem?_eq_getElem hi]
      simp only [List.getElem?_map, List.getElem?_range hi, Option.map_some]
      unfold pIns
      rw [hF, show 6 + 2 * cls.length + e.size + 1 + 4 * i = 7 + 2 * cls.length + e.size + 4 * i by omega, h4.1, h4.2.1, h4.2.2.1, h4.2.2.2]
      simp [List.getD_eq_getElem?_getD, List.getElem?_eq_getElem hi]
    · rw [List.getElem?_eq_none (by simp; omega), List.getElem?_eq_none (by omega)]
  have hdata : pData s = e := by
    unfold pData
    rw [if_pos (by omega), ← pDataG_eq (by omega)]
    apply bext
    show ((List.range (pM s)).map fun j => UInt8.ofNat (byteAt s (pD s + 1 + j)).toNat) = _
    apply List.ext_getElem?
    intro i
    rw [hM, hD]
    by_cases hi : i < e.size
    · simp only [List.getElem?_map, List.getElem?_range hi, Option.map_some]
      rw [hpre _ (by omega), show 5 + 2 * cls.length + 1 + i = 6 + 2 * cls.length + i by omega, h3.2.1 i hi, byteAt_list hi]
    · rw [List.getElem?_eq_none (by simp; omega), List.getElem?_eq_none (by simp; omega)]
  have hst : byteAt s 2 = st := by rw [h5 2 (by omega), h1.1]
  have hre : byteAt s 3 = rest := by rw [h5 3 (by omega), h1.2.1]
  have hhead : pHead s = true := by
    unfold pHead
    rw [h5 0 (by omega), h5 1 (by omega), (img1_head st rest cls).1, (img1_head st rest cls).2]
    rfl
  refine ⟨?_, hst, hre, hcls, hdata, hcode, hE.symm⟩
  unfold imgB pSound
  rw [hhead, hst, hre, hcls, hcode, hM, hs]
  simp [hE]

theorem imgB_end {d : ByteArray} (h : imgB d = true) : pEnd d = d.size := by
  unfold imgB at h
  simp only [Bool.and_eq_true, decide_eq_true_eq] at h
  exact h.1.2
end Go.Proofs.YtjikemhmnkckcabGreat
/- The statements' same; Run of what is no image; refusedImage. -/
namespace Go.Proofs.YtjikemhmnkckcabGreat
open Go.RowKit
attribute [local go_sem ↓] Go.wp_at_zero Go.wp_at_succ

/-- An outcome's cells. -/
def outC (en co st pc dr : Int) (o : ByteArray) (rep : List Value) : List Value := [.int .i64 en, .int .i64 co, .int .i64 st, .int .i64 pc, .int .i64 dr, .string o] ++ rep
def zRep : List Value := [.int .i64 0, .int .i64 0, .int .i64 0, .int .i64 0, .int .i64 0, .int .i64 0, .int .i64 0, .int .i64 0, .int .i64 0, .slice none 0 0]

set_option maxRecDepth 100000 in
set_option maxHeartbeats 3200000 in
theorem run_no (d inp : ByteArray) (vd : Value) (fuel : Int) (w : World) (hd : (d.size : Int) ≤ 9223372036854775807) (hB : imgB d = false) :
    Calls Tryz.prog 6 #[.string d, .string inp, vd, .int .i64 fuel] w fun e w' => e = .returned (.agg (outC 1 0 0 0 0 ⟨#[]⟩ zRep).toArray) ∧ Below w.heap.size w w' := by
  have HBB := hide2 hB
  clear hB
  go_enter Tryz.func6, Tryz.ntmps6
  go_upto_region 1 with (fail)
  obtain ⟨wa, hwa⟩ : ∃ wa, wa = w.alloc (.cells (outC 0 0 0 0 0 ⟨#[]⟩ zRep).toArray 28) := ⟨_, rfl⟩
  have HBA : Hid (Below w.heap.size w wa) := by show Below _ _ _; rw [hwa]; exact (Below.refl _ _).alloc (Nat.le_refl _) _
  have HO : Hid (Blk wa w.heap.size 28 (outC 0 0 0 0 0 ⟨#[]⟩ zRep)) := by show Blk _ _ _ _; rw [hwa]; exact Blk.alloc _ _ _
  unfold outC zRep at hwa
  simp only [List.cons_append, List.nil_append] at hwa
  rw [← hwa]
  clear hwa
  go_upto_region 2 with (go_at_call 13; refine (gread_any d wa hd).mono ?_; rintro e1 w1 ⟨a, cap, ia, icap, rfl, -, hbel, -⟩; obtain ⟨y0, y1, y2, y3, y4, y5⟩ := o_no HBB.out; rw [y0, y1, y2, y3, y4, y5]; have HB1 := hide2 hbel; have HO1 := hide2 (HO.out.below hbel HO.out.lt); clear hbel y0 y1 y2 y3 y4 y5)
  obtain ⟨w2, hw2⟩ : ∃ w2, w2 = w1.alloc (.cells #[.int .i64 0, .int .i64 0, .slice a 0 cap, .string ⟨#[]⟩, .slice ia 0 icap] 39) := ⟨_, rfl⟩
  have HX2 : Hid (Below w1.heap.size w1 w2) := by show Below _ _ _; rw [hw2]; exact (Below.refl _ _).alloc (Nat.le_refl _) _
  first
    | rw [← hw2]
    | (simp only [List.length_nil]; rw [← hw2])
  have HO2 := hide2 (HO1.out.below HX2.out HO1.out.lt)
  have hsz := HB1.out.size
  have hsz2 := HBA.out.size
  have HBL : Hid (Below w.heap.size w w2) := (HBA.out.trans (HB1.out.mono hsz2)).trans (HX2.out.mono (by omega))
  clear hw2 HX2 HO1 HB1 HO
  have hbuilt : Tryz.prog.built 28 [(0, .int .i64 1)] = some (outC 1 0 0 0 0 ⟨#[]⟩ zRep).toArray := by kernel_rfl
  go_upto_region 3 with (fail)
  apply wp_region_lit
  refine wpList_build rfl 28 _ rfl (by simp only [List.map_toArray, List.map_cons, List.map_nil, Act.eval]; rw [hbuilt]; rfl) ?_
  simp only [List.map_toArray, List.map_cons, List.map_nil, Act.eval, hbuilt, Option.getD_some]
  refine wpList_store_row rfl 28 _ _ rfl w.heap.size (outC 1 0 0 0 0 ⟨#[]⟩ zRep).toArray rfl rfl 28 _ HO2.out (by kernel_rfl) rfl (by kernel_rfl) ?_
  go_wp2
  refine bodyPost_ret (v := .agg (outC 1 0 0 0 0 ⟨#[]⟩ zRep).toArray) ?_ rfl ⟨rfl, ?_⟩
  · exact results_cell_row Tryz.results6 _ _ w.heap.size 28 (outC 1 0 0 0 0 ⟨#[]⟩ zRep).toArray (0, 0) _ rfl (setRow_heap w2 _ _ _ _ _ HO2.out) Tryz.underlying28 rfl (by kernel_rfl)
  exact HBL.out.trans ⟨rfl, rfl, rfl, by simp [World.setRow], fun k hk => setRow_other w2 _ k _ (by omega)⟩
end Go.Proofs.YtjikemhmnkckcabGreat
/- A block of sixteen cells that is written over. -/
namespace Go.Proofs.YtjikemhmnkckcabGreat
open Go.RowKit

theorem Blk.drew {w : World} {q : Nat} {t : TypeId} {l : List Value} (h : Blk w q t l) : Blk w.drew q t l := h
theorem blk_set16 {w : World} {q : Nat} {t : TypeId} {u0 u1 u2 u3 u4 u5 u6 u7 u8 u9 u10 u11 u12 u13 u14 u15 : Value} (h : Blk w q t [u0, u1, u2, u3, u4, u5, u6, u7, u8, u9, u10, u11, u12, u13, u14, u15]) (v0 v1 v2 v3 v4 v5 v6 v7 v8 v9 v10 v11 v12 v13 v14 v15 : Value) : Blk ((((((((((((((((w.setCell ⟨q, 0, none⟩ v0).setCell ⟨q, 1, none⟩ v1).setCell ⟨q, 2, none⟩ v2).setCell ⟨q, 3, none⟩ v3).setCell ⟨q, 4, none⟩ v4).setCell ⟨q, 5, none⟩ v5).setCell ⟨q, 6, none⟩ v6).setCell ⟨q, 7, none⟩ v7).setCell ⟨q, 8, none⟩ v8).setCell ⟨q, 9, none⟩ v9).setCell ⟨q, 10, none⟩ v10).setCell ⟨q, 11, none⟩ v11).setCell ⟨q, 12, none⟩ v12).setCell ⟨q, 13, none⟩ v13).setCell ⟨q, 14, none⟩ v14).setCell ⟨q, 15, none⟩ v15) q t [v0, v1, v2, v3, v4, v5, v6, v7, v8, v9, v10, v11, v12, v13, v14, v15] :=
  ((((((((((((((((h.setCell 0 v0).setCell 1 v1).setCell 2 v2).setCell 3 v3).setCell 4 v4).setCell 5 v5).setCell 6 v6).setCell 7 v7).setCell 8 v8).setCell 9 v9).setCell 10 v10).setCell 11 v11).setCell 12 v12).setCell 13 v13).setCell 14 v14).setCell 15 v15)
theorem below_set16 {B : Nat} {a w : World} (h : Below B a w) {q : Nat} (hb : B ≤ q) (v0 v1 v2 v3 v4 v5 v6 v7 v8 v9 v10 v11 v12 v13 v14 v15 : Value) : Below B a ((((((((((((((((w.setCell ⟨q, 0, none⟩ v0).setCell ⟨q, 1, none⟩ v1).setCell ⟨q, 2, none⟩ v2).setCell ⟨q, 3, none⟩ v3).setCell ⟨q, 4, none⟩ v4).setCell ⟨q, 5, none⟩ v5).setCell ⟨q, 6, none⟩ v6).setCell ⟨q, 7, none⟩ v7).setCell ⟨q, 8, none⟩ v8).setCell ⟨q, 9, none⟩ v9).setCell ⟨q, 10, none⟩ v10).setCell ⟨q, 11, none⟩ v11).setCell ⟨q, 12, none⟩ v12).setCell ⟨q, 13, none⟩ v13).setCell ⟨q, 14, none⟩ v14).setCell ⟨q, 15, none⟩ v15) :=
  ((((((((((((((((h.setCell (p := ⟨q, 0, none⟩) hb v0).setCell (p := ⟨q, 1, none⟩) hb v1).setCell (p := ⟨q, 2, none⟩) hb v2).setCell (p := ⟨q, 3, none⟩) hb v3).setCell (p := ⟨q, 4, none⟩) hb v4).setCell (p := ⟨q, 5, none⟩) hb v5).setCell (p := ⟨q, 6, none⟩) hb v6).setCell (p := ⟨q, 7, none⟩) hb v7).setCell (p := ⟨q, 8, none⟩) hb v8).setCell (p := ⟨q, 9, none⟩) hb v9).setCell (p := ⟨q, 10, none⟩) hb v10).setCell (p := ⟨q, 11, none⟩) hb v11).setCell (p := ⟨q, 12, none⟩) hb v12).setCell (p := ⟨q, 13, none⟩) hb v13).setCell (p := ⟨q, 14, none⟩) hb v14).setCell (p := ⟨q, 15, none⟩) hb v15)
end Go.Proofs.YtjikemhmnkckcabGreat
/- The program's machine: how it ends; a run without fuel. -/
namespace Go.Proofs.YtjikemhmnkckcabGreat
open Go.RowKit
attribute [local go_sem ↓] Go.wp_at_zero Go.wp_at_succ

set_option maxRecDepth 100000 in
set_option maxHeartbeats 3200000 in
theorem outcome_any (mb : Nat) (ph vcode : Value) (r0 r1 r2 r3 r4 r5 r6 r7 : Int) (inp : ByteArray) (heard : Int) (vd : Value) (drawn : Int) (vo : Value) (pc next steps en ex : Int) (x0 x1 x2 x3 x4 x5 x6 x7 x8 : Int) (na : Option Addr) (nn ncap : Nat) (b : ByteArray) (w : World)
    (h : Blk w mb 81 (mCells ph vcode [r0, r1, r2, r3, r4, r5, r6, r7] inp heard vd drawn vo pc next steps en ex [.int .i64 x0, .int .i64 x1, .int .i64 x2, .int .i64 x3, .int .i64 x4, .int .i64 x5, .int .i64 x6, .int .i64 x7, .int .i64 x8, .slice na nn ncap]))
    (ho : w.ownsRow 0 5 1 vo b.size (bytesV b)) :
    Calls Tryz.prog 16 #[.pointer (some ⟨mb, 0, none⟩)] w fun e w' => e = .returned (.agg (outC en ex steps pc drawn b [.int .i64 x0, .int .i64 x1, .int .i64 x2, .int .i64 x3, .int .i64 x4, .int .i64 x5, .int .i64 x6, .int .i64 x7, .int .i64 x8, .slice na nn ncap]).toArray) ∧ Below w.heap.size w w' := by
  go_enter Tryz.func16, Tryz.ntmps16
  go_upto_region 1 with (fail)
  obtain ⟨wa, hwa⟩ : ∃ wa, wa = w.alloc (.cells (outC 0 0 0 0 0 ⟨#[]⟩ zRep).toArray 28) := ⟨_, rfl⟩
  have hbl : Below w.heap.size w wa := by rw [hwa]; exact (Below.refl _ _).alloc (Nat.le_refl _) _
  have HBA := hide2 hbl
  have HO : Hid (Blk wa w.heap.size 28 (outC 0 0 0 0 0 ⟨#[]⟩ zRep)) := by show Blk _ _ _ _; rw [hwa]; exact Blk.alloc _ _ _
  have HM := hide2 (h.below hbl h.lt)
  have HRW := hide2 (row_below ho hbl (own_lt ho))
  have hmo : mb ≠ w.heap.size := by have := h.lt; omega
  unfold outC zRep at hwa
  simp only [List.cons_append, List.nil_append] at hwa
  rw [← hwa]
  clear hwa hbl h ho
  have hcv := convert_row HRW.out
  have hcv3 := convert_row (w := wa.drew) (row_below HRW.out ((Below.refl _ _).drew) (own_lt HRW.out))
  have c11 := HM.out.cell (j := 14) rfl
  have d0 := HM.out.cell (j := 13) rfl
  have d1 := HM.out.cell (j := 15) rfl
  have d2 := HM.out.cell (j := 17) rfl
  have d3 := HM.out.cell (j := 18) rfl
  have d4 := HM.out.cell (j := 19) rfl
  have e0 := HM.out.cell (j := 20) rfl
  have e1 := HM.out.cell (j := 21) rfl
  have e2 := HM.out.cell (j := 22) rfl
  have e3 := HM.out.cell (j := 23) rfl
  have e4 := HM.out.cell (j := 24) rfl
  have e5 := HM.out.cell (j := 25) rfl
  have e6 := HM.out.cell (j := 26) rfl
  have e7 := HM.out.cell (j := 27) rfl
  have e8 := HM.out.cell (j := 28) rfl
  have e9 := HM.out.cell (j := 29) rfl
  have o0 := HO.out.cell (j := 0) rfl
  have of0 := HO.out.frozen 0
  have o1 := HO.out.cell (j := 1) rfl
  have of1 := HO.out.frozen 1
  have o2 := HO.out.cell (j := 2) rfl
  have of2 := HO.out.frozen 2
  have o3 := HO.out.cell (j := 3) rfl
  have of3 := HO.out.frozen 3
  have o4 := HO.out.cell (j := 4) rfl
  have of4 := HO.out.frozen 4
  have o5 := HO.out.cell (j := 5) rfl
  have of5 := HO.out.frozen 5
  have o6 := HO.out.cell (j := 6) rfl
  have of6 := HO.out.frozen 6
  have o7 := HO.out.cell (j := 7) rfl
  have of7 := HO.out.frozen 7
  have o8 := HO.out.cell (j := 8) rfl
  have of8 := HO.out.frozen 8
  have o9 := HO.out.cell (j := 9) rfl
  have of9 := HO.out.frozen 9
  have o10 := HO.out.cell (j := 10) rfl
  have of10 := HO.out.frozen 10
  have o11 := HO.out.cell (j := 11) rfl
  have of11 := HO.out.frozen 11
  have o12 := HO.out.cell (j := 12) rfl
  have of12 := HO.out.frozen 12
  have o13 := HO.out.cell (j := 13) rfl
  have of13 := HO.out.frozen 13
  have o14 := HO.out.cell (j := 14) rfl
  have of14 := HO.out.frozen 14
  have o15 := HO.out.cell (j := 15) rfl
  have of15 := HO.out.frozen 15
  have HOX : Hid (Blk wa w.heap.size 28 [.int .i64 0, .int .i64 0, .int .i64 0, .int .i64 0, .int .i64 0, .string ⟨#[]⟩, .int .i64 0, .int .i64 0, .int .i64 0, .int .i64 0, .int .i64 0, .int .i64 0, .int .i64 0, .int .i64 0, .int .i64 0, .slice none 0 0]) := HO.out
  clear HRW HM hmo HO
  go_region
  go_wp2
  refine bodyPost_ret (v := .agg (outC en ex steps pc drawn b [.int .i64 x0, .int .i64 x1, .int .i64 x2, .int .i64 x3, .int .i64 x4, .int .i64 x5, .int .i64 x6, .int .i64 x7, .int .i64 x8, .slice na nn ncap]).toArray) ?_ rfl ⟨rfl, ?_⟩
  · exact results_cell_row Tryz.results16 _ _ w.heap.size 28 (outC en ex steps pc drawn b [.int .i64 x0, .int .i64 x1, .int .i64 x2, .int .i64 x3, .int .i64 x4, .int .i64 x5, .int .i64 x6, .int .i64 x7, .int .i64 x8, .slice na nn ncap]).toArray (0, 0) _ rfl (Blk.drew (blk_set16 HOX.out _ _ _ _ _ _ _ _ _ _ _ _ _ _ _ _)) Tryz.underlying28 rfl (by kernel_rfl)
  · exact (below_set16 HBA.out (Nat.le_refl _) _ _ _ _ _ _ _ _ _ _ _ _ _ _ _ _).drew
end Go.Proofs.YtjikemhmnkckcabGreat
/- A Run of an image without fuel. -/
namespace Go.Proofs.YtjikemhmnkckcabGreat
open Go.RowKit
attribute [local go_sem ↓] Go.wp_at_zero Go.wp_at_succ

theorem img_parts {d : ByteArray} (h : imgB d = true) : Cf.Valid (byteAt d 2) (byteAt d 3) (pCls d) ∧ ((pData d).size : Int) ≤ 16 * byteAt d 2 ∧ 0 < (pCode d).length := by
  have hs : soundB (byteAt d 2) (byteAt d 3) (pCls d) (pData d).size (pCode d) = true := (imgB_yes h).1
  unfold soundB at hs
  simp only [Bool.and_eq_true, decide_eq_true_eq] at hs
  have hc := hs.2.1
  unfold withinB at hc
  simp at hc
  exact ⟨Cf.valid_of hs.1.1, by omega, by omega⟩

set_option maxRecDepth 100000 in
set_option maxHeartbeats 6400000 in
theorem run_zero (d inp : ByteArray) (da : Option Addr) (nd dcap : Nat) (w : World) (hd : (d.size : Int) ≤ 9223372036854775807) (hB : imgB d = true) :
    Calls Tryz.prog 6 #[.string d, .string inp, .slice da nd dcap, .int .i64 0] w fun e w' => e = .returned (.agg (outC 3 0 0 0 0 ⟨#[]⟩ zRep).toArray) ∧ Below w.heap.size w w' := by
  obtain ⟨hv, hdt, hcp⟩ := img_parts hB
  have HV := hide2 hv
  have HDT := hide2 hdt
  have HBB := hide2 hB
  clear hB hv hdt
  go_enter Tryz.func6, Tryz.ntmps6
  go_upto_region 1 with (fail)
  obtain ⟨wa, hwa⟩ : ∃ wa, wa = w.alloc (.cells (outC 0 0 0 0 0 ⟨#[]⟩ zRep).toArray 28) := ⟨_, rfl⟩
  have HBA : Hid (Below w.heap.size w wa) := by show Below _ _ _; rw [hwa]; exact (Below.refl _ _).alloc (Nat.le_refl _) _
  have HO : Hid (Blk wa w.heap.size 28 (outC 0 0 0 0 0 ⟨#[]⟩ zRep)) := by show Blk _ _ _ _; rw [hwa]; exact Blk.alloc _ _ _
  unfold outC zRep at hwa
  simp only [List.cons_append, List.nil_append] at hwa
  rw [← hwa]
  clear hwa
  go_upto_region 2 with (go_at_call 13; refine (gread_any d wa hd).mono ?_; rintro e1 w1 ⟨a, cap, ia, icap, rfl, hrows, hbel, -⟩; obtain ⟨y0, y1, y2, y3, y4, y5⟩ := o_yes HBB.out; rw [y2, y4] at hrows; rw [y0, y1, y2, y3, y4, y5]; have HR1 := hide2 hrows; have HB1 := hide2 hbel; have HO1 := hide2 (HO.out.below hbel HO.out.lt); clear hbel hrows y0 y1 y2 y3 y4 y5)
  generalize byteAt d 2 = st at *
  generalize byteAt d 3 = re at *
  generalize pCls d = cls at *
  generalize pData d = dt at *
  generalize pCode d = code at *
  obtain ⟨w2, hw2⟩ : ∃ w2, w2 = w1.alloc (.cells #[.int .i64 st, .int .i64 re, .slice a cls.length cap, .string dt, .slice ia code.length icap] 39) := ⟨_, rfl⟩
  have HX2 : Hid (Below w1.heap.size w1 w2) := by show Below _ _ _; rw [hw2]; exact (Below.refl _ _).alloc (Nat.le_refl _) _
  have HP2 : Hid (Blk w2 w1.heap.size 39 [.int .i64 st, .int .i64 re, .slice a cls.length cap, .string dt, .slice ia code.length icap]) := by show Blk _ _ _ _; rw [hw2]; exact Blk.alloc _ _ _
  rw [← hw2]
  have HO2 := hide2 (HO1.out.below HX2.out HO1.out.lt)
  have HR2 := hide2 (HR1.out.kept (fun g _ hg => HX2.out.block g hg))
  have hsz1 := HB1.out.size
  have hsza := HBA.out.size
  have HBL2 : Hid (Below w.heap.size w w2) := (HBA.out.trans (HB1.out.mono hsza)).trans (HX2.out.mono (by omega))
  clear hw2 HX2 HO1 HB1 HO HR1
  have p0 := HP2.out.cell (j := 0) rfl
  have p1 := HP2.out.cell (j := 1) rfl
  have p2 := HP2.out.cell (j := 2) rfl
  have p3 := HP2.out.cell (j := 3) rfl
  have p4 := HP2.out.cell (j := 4) rfl
  go_upto_region 5 with (go_at_call 14; refine (newMachine_any st re a cap cls dt ia code.length icap inp da nd dcap w2 (crow_of HR2.out.crow) HV.out HDT.out).mono ?_; rintro e1 w3 ⟨mb, ph, gc, bb, cs, rfl, hm, -, -, hb3, hmb, -⟩; have HM3 := hide2 hm; have HX3 := hide2 hb3; have HMB := hide2 hmb; clear hm hb3 hmb)
  clear p0 p1 p2 p3 p4
  have HO3 := hide2 (HO2.out.below HX3.out HO2.out.lt)
  have HBL3 : Hid (Below w.heap.size w w3) := HBL2.out.trans (HX3.out.mono HBL2.out.size)
  have hol2 := HO2.out.lt
  have hmw : w.heap.size ≠ mb := by have := HMB.out; omega
  go_upto_region 6 with (go_at_call 15; refine (run_nofuel mb _ ia code.length icap 0 0 0 0 0 0 0 0 inp 0 _ 0 _ 0 _ w3 hcp HM3.out).mono ?_; rintro e1 w4 ⟨rfl, hm4, hk4⟩; have HM4 := hide2 hm4; have HK4 := hide2 hk4; clear hm4 hk4)
  have HO4 := hide2 (HO3.out.kept HK4.out hmw)
  have hsz3 := HX3.out.size
  have HBL4 : Hid (Below w.heap.size w w4) := by
    have hk := HK4.out
    have hx := HBL3.out
    have := HMB.out
    have := HBL2.out.size
    exact ⟨by rw [hk.os, hx.os], by rw [hk.tape, hx.tape], by rw [hk.output, hx.output], by have := hk.size; have := hx.size; omega, fun k hkk => (hk.block k (by have := hx.size; omega) (by omega)).trans (hx.block k hkk)⟩
  have hcall := outcome_any mb (.pointer (some ⟨ph, 0, none⟩)) (.slice ia code.length icap) 0 0 0 0 0 0 0 0 inp 0 (.slice da nd dcap) 0 (.slice none 0 0) 0 0 0 3 0 0 0 0 0 0 0 0 0 0 none 0 0 ⟨#[]⟩ w4 HM4.out ⟨rfl, .inl ⟨rfl, rfl⟩⟩
  have HCALL := hide2 hcall
  clear hcall HX3 HM3 HK4 HP2 HR2
  go_wp2_with (go_at_call 16; refine HCALL.out.mono ?_; rintro e1 w5 ⟨rfl, hb5⟩; have HB5 := hide2 hb5; have HO5 := hide2 (HO4.out.below hb5 HO4.out.lt); clear hb5; unfold outC; simp only [List.cons_append, List.nil_append]; have c0 := HO5.out.cell (j := 0) rfl; have c1 := HO5.out.cell (j := 1) rfl; have c2 := HO5.out.cell (j := 2) rfl; have c3 := HO5.out.cell (j := 3) rfl; have c4 := HO5.out.cell (j := 4) rfl; have c5 := HO5.out.cell (j := 5) rfl; have c6 := HO5.out.cell (j := 6) rfl; have c7 := HO5.out.cell (j := 7) rfl; have c8 := HO5.out.cell (j := 8) rfl; have c9 := HO5.out.cell (j := 9) rfl; have c10 := HO5.out.cell (j := 10) rfl; have c11 := HO5.out.cell (j := 11) rfl; have c12 := HO5.out.cell (j := 12) rfl; have c13 := HO5.out.cell (j := 13) rfl; have c14 := HO5.out.cell (j := 14) rfl; have c15 := HO5.out.cell (j := 15) rfl; have f0 := HO5.out.frozen 0; have f1 := HO5.out.frozen 1; have f2 := HO5.out.frozen 2; have f3 := HO5.out.frozen 3; have f4 := HO5.out.frozen 4; have f5 := HO5.out.frozen 5; have f6 := HO5.out.frozen 6; have f7 := HO5.out.frozen 7; have f8 := HO5.out.frozen 8; have f9 := HO5.out.frozen 9; have f10 := HO5.out.frozen 10; have f11 := HO5.out.frozen 11; have f12 := HO5.out.frozen 12; have f13 := HO5.out.frozen 13; have f14 := HO5.out.frozen 14; have f15 := HO5.out.frozen 15)
  have HOX : Hid (Blk w5 w.heap.size 28 [.int .i64 0, .int .i64 0, .int .i64 0, .int .i64 0, .int .i64 0, .string ⟨#[]⟩, .int .i64 0, .int .i64 0, .int .i64 0, .int .i64 0, .int .i64 0, .int .i64 0, .int .i64 0, .int .i64 0, .int .i64 0, .slice none 0 0]) := HO5.out
  have HBL5 : Hid (Below w.heap.size w w5) := HBL4.out.trans (HB5.out.mono HBL4.out.size)
  refine bodyPost_ret (v := .agg (outC 3 0 0 0 0 ⟨#[]⟩ zRep).toArray) ?_ rfl ⟨rfl, ?_⟩
  · exact results_cell_row Tryz.results6 _ _ w.heap.size 28 (outC 3 0 0 0 0 ⟨#[]⟩ zRep).toArray (0, 0) _ rfl (blk_set16 HOX.out _ _ _ _ _ _ _ _ _ _ _ _ _ _ _ _) Tryz.underlying28 rfl (by kernel_rfl)
  · exact below_set16 HBL5.out (Nat.le_refl _) _ _ _ _ _ _ _ _ _ _ _ _ _ _ _ _
end Go.Proofs.YtjikemhmnkckcabGreat
/- A Run of an image, whatever the input, the draws and the fuel. -/
namespace Go.Proofs.YtjikemhmnkckcabGreat
open Go.RowKit
attribute [local go_sem ↓] Go.wp_at_zero Go.wp_at_succ

theorem simB_start {st rest : Int} {cls : List (Int × Int)} {cs : List GCls} (hv : Cf.Valid st rest cls) (h : ClsOk st cls cls.length cs) : SimB ⟨st, rest, cs, List.replicate (16 * Cf.gran st cls cls.length).toNat 0⟩ ⟨st, rest, cls, [], []⟩ := by
  have hg := Cf.gran_bd hv cls.length (Nat.le_refl _)
  have hz : ∀ i, (List.replicate (16 * Cf.gran st cls cls.length).toNat (0 : Int)).getD i 0 = 0 := fun i => by
    rw [List.getD_eq_getElem?_getD, List.getElem?_replicate]
    split <;> rfl
  exact ⟨Sim.start hv h _ (by rw [List.length_replicate]; omega), ⟨fun i hi => absurd hi (by simp), fun i hi => absurd hi (by simp)⟩, fun i _ => by rw [hz]; decide, fun addr _ _ => hz _, fun i hi => absurd hi (by simp)⟩

/-- How a run begins, and what it comes to. -/
def mBeg (d : ByteArray) : MS := ⟨(⟨byteAt d 2, byteAt d 3, pCls d, [], []⟩ : RSt).lays (pData d) (pData d).size, [0, 0, 0, 0, 0, 0, 0, 0], 0, 0, ⟨#[]⟩, 0, 0, 0, 0, 0, Rpt.only 0⟩
def mFin (d inp : ByteArray) (ds : List Int) (fuel : Int) : MS := mRun inp ds (pCode d) (mFuel fuel) 4097 (mBeg d)
def outOf (S : MS) (vn : Value) : List Value := outC S.en S.ex S.steps S.pc S.drawn S.out (rptCells S.rep vn)

theorem codeB_may {code : List Ins} {m : Nat} (h : codeB code m = true) : ∀ i, i < m → (code.getD i Ins.no).may code.length = true := by
  induction m with
  | zero => intro i hi; omega
  | succ m ih =>
    simp only [codeB, Bool.and_eq_true] at h
    intro i hi
    by_cases e : i = m
    · rw [e]; exact h.2
    · exact ih h.1 i (by omega)
theorem img_code {d : ByteArray} (h : imgB d = true) : (∀ i, i < (pCode d).length → ∃ n, ((pCode d).getD i Ins.no).may n = true) ∧ (pCode d).length ≤ 255 := by
  have hs : soundB (byteAt d 2) (byteAt d 3) (pCls d) (pData d).size (pCode d) = true := (imgB_yes h).1
  unfold soundB at hs
  simp only [Bool.and_eq_true, decide_eq_true_eq] at hs
  have hc := hs.2.1
  unfold withinB at hc
  simp at hc
  exact ⟨fun i hi => ⟨_, codeB_may hs.2.2 i hi⟩, by omega⟩
end Go.Proofs.YtjikemhmnkckcabGreat
