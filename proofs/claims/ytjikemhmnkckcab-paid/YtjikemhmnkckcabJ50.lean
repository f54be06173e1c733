import Derived.Test.YtjikemhmnkckcabJ36
import Derived.Test.YtjikemhmnkckcabJ39
/- A program is read back from its image; a part of an image is none, nor is one with a byte behind it. -/
namespace Go.Proofs.Ytjikemhmnkckcab
open Go.RowKit

section
variable {st rest : Int} {cls : List (Int × Int)} {e : ByteArray} {code : List Ins}
theorem img1_at (s0 : 0 ≤ st) (s1 : st ≤ 255) (r0 : 0 ≤ rest) (r1 : rest ≤ 255) (n1 : cls.length ≤ 255) : byteAt (img1 st rest cls) 2 = st ∧ byteAt (img1 st rest cls) 3 = rest ∧ byteAt (img1 st rest cls) 4 = cls.length := by
  unfold img1
  have e2 : (⟨#[71, 82]⟩ : ByteArray).size = 2 := rfl
  have h3 : ((⟨#[71, 82]⟩ : ByteArray) ++ bOne st).size = 3 := by rw [ByteArray.size_append, e2]; rfl
  have h4 : ((⟨#[71, 82]⟩ : ByteArray) ++ bOne st ++ bOne rest).size = 4 := by rw [ByteArray.size_append, h3]; rfl
  refine ⟨?_, ?_, ?_⟩
  · rw [byteAt_app _ _ _ (by omega), byteAt_app _ _ _ (by omega)]
    exact byteAt_app_one _ st s0 s1
  · rw [byteAt_app _ _ _ (by omega), ← h3]
    exact byteAt_app_one _ rest r0 r1
  · rw [← h4]
    exact byteAt_app_one _ (cls.length : Int) (by omega) (by omega)
theorem img2_at (hg : ∀ i, i < cls.length → (0 ≤ Cf.gr cls i ∧ Cf.gr cls i ≤ 255) ∧ 0 ≤ Cf.sl cls i ∧ Cf.sl cls i ≤ 255) (m i : Nat) (hm : m ≤ cls.length) (hi : i < m) : byteAt (img2 st rest cls m) (5 + 2 * i) = Cf.gr cls i ∧ byteAt (img2 st rest cls m) (6 + 2 * i) = Cf.sl cls i := by
  induction m with
  | zero => omega
  | succ m ih =>
    unfold img2
    have hs := img2_size st rest cls m
    have hs2 : (img2 st rest cls m ++ bOne (Cf.gr cls m)).size = 6 + 2 * m := by rw [ByteArray.size_append, bOne_size, hs]; omega
    by_cases h : i = m
    · subst h
      refine ⟨?_, ?_⟩
      · rw [byteAt_app _ _ _ (by omega), ← hs]
        exact byteAt_app_one _ _ (hg i (by omega)).1.1 (hg i (by omega)).1.2
      · rw [← hs2]
        exact byteAt_app_one _ _ (hg i (by omega)).2.1 (hg i (by omega)).2.2
    · have := ih (by omega) (by omega)
      rw [byteAt_app _ _ _ (by omega), byteAt_app _ _ _ (by omega), byteAt_app _ _ _ (by omega), byteAt_app _ _ _ (by omega)]
      exact this
theorem byteAt_right (b c : ByteArray) (j : Nat) : byteAt (b ++ c) (b.size + j) = byteAt c j := by
  unfold byteAt
  rw [app_list, List.getElem?_append_right (by simp)]
  simp
theorem img3_at (he : e.size ≤ 255) (n : Nat) (hn : n ≤ 255) : byteAt (img3 st rest cls e n) (5 + 2 * cls.length) = e.size ∧ (∀ j, j < e.size → byteAt (img3 st rest cls e n) (6 + 2 * cls.length + j) = byteAt e j) ∧ byteAt (img3 st rest cls e n) (6 + 2 * cls.length + e.size) = n := by
  have hs := img2_size st rest cls cls.length
  have hs2 : (img2 st rest cls cls.length ++ bOne (e.size : Int)).size = 6 + 2 * cls.length := by rw [ByteArray.size_append, bOne_size, hs]; omega
  have hs3 : (img2 st rest cls cls.length ++ bOne (e.size : Int) ++ e).size = 6 + 2 * cls.length + e.size := by rw [ByteArray.size_append, hs2]
  refine ⟨img3_len _ _ _ _ _ he, fun j hj => ?_, ?_⟩
  · unfold img3
    rw [byteAt_app _ _ _ (by omega), ← hs2]
    exact byteAt_right _ _ j
  · unfold img3
    rw [← hs3]
    exact byteAt_app_one _ (n : Int) (by omega) (by omega)
theorem img3_cls (n : Nat) (k : Nat) (hk : k < 5 + 2 * cls.length) : byteAt (img3 st rest cls e n) k = byteAt (img2 st rest cls cls.length) k := by
  have hs := img2_size st rest cls cls.length
  unfold img3
  rw [byteAt_app _ _ _ (by simp only [ByteArray.size_append, bOne_size]; omega), byteAt_app _ _ _ (by simp only [ByteArray.size_append, bOne_size]; omega), byteAt_app _ _ _ (by omega)]
theorem img4_at (hb : ∀ i, i < code.length → (0 ≤ (code.getD i Ins.no).op ∧ (code.getD i Ins.no).op ≤ 255) ∧ (0 ≤ (code.getD i Ins.no).a ∧ (code.getD i Ins.no).a ≤ 255) ∧ (0 ≤ (code.getD i Ins.no).b ∧ (code.getD i Ins.no).b ≤ 255) ∧ (0 ≤ (code.getD i Ins.no).c ∧ (code.getD i Ins.no).c ≤ 255)) (t i : Nat) (ht : t ≤ code.length) (hi : i < t) :
    byteAt (img4 st rest cls e code t) (7 + 2 * cls.length + e.size + 4 * i) = (code.getD i Ins.no).op ∧ byteAt (img4 st rest cls e code t) (7 + 2 * cls.length + e.size + 4 * i + 1) = (code.getD i Ins.no).a ∧ byteAt (img4 st rest cls e code t) (7 + 2 * cls.length + e.size + 4 * i + 2) = (code.getD i Ins.no).b ∧ byteAt (img4 st rest cls e code t) (7 + 2 * cls.length + e.size + 4 * i + 3) = (code.getD i Ins.no).c := by
  induction t with
  | zero => omega
  | succ t ih =>
    unfold img4
    have hs := img4_size st rest cls e code t
    have hs1 : (img4 st rest cls e code t ++ bOne (code.getD t Ins.no).op).size = 7 + 2 * cls.length + e.size + 4 * t + 1 := by rw [ByteArray.size_append, bOne_size, hs]
    have hs2 : (img4 st rest cls e code t ++ bOne (code.getD t Ins.no).op ++ bOne (code.getD t Ins.no).a).size = 7 + 2 * cls.length + e.size + 4 * t + 2 := by rw [ByteArray.size_append, bOne_size, hs1]
    have hs3 : (img4 st rest cls e code t ++ bOne (code.getD t Ins.no).op ++ bOne (code.getD t Ins.no).a ++ bOne (code.getD t Ins.no).b).size = 7 + 2 * cls.length + e.size + 4 * t + 3 := by rw [ByteArray.size_append, bOne_size, hs2]
    by_cases h : i = t
    · subst h
      obtain ⟨o, a, b, c⟩ := hb i (by omega)
      refine ⟨?_, ?_, ?_, ?_⟩
      · rw [byteAt_app _ _ _ (by omega), byteAt_app _ _ _ (by omega), byteAt_app _ _ _ (by omega), ← hs]
        exact byteAt_app_one _ _ o.1 o.2
      · rw [byteAt_app _ _ _ (by omega), byteAt_app _ _ _ (by omega), ← hs1]
        exact byteAt_app_one _ _ a.1 a.2
      · rw [byteAt_app _ _ _ (by omega), ← hs2]
        exact byteAt_app_one _ _ b.1 b.2
      · rw [← hs3]
        exact byteAt_app_one _ _ c.1 c.2
    · have := ih (by omega) (by omega)
      rw [byteAt_app _ _ _ (by omega), byteAt_app _ _ _ (by omega), byteAt_app _ _ _ (by omega), byteAt_app _ _ _ (by omega), byteAt_app _ _ _ (by omega), byteAt_app _ _ _ (by omega), byteAt_app _ _ _ (by omega), byteAt_app _ _ _ (by omega), byteAt_app _ _ _ (by omega), byteAt_app _ _ _ (by omega), byteAt_app _ _ _ (by omega), byteAt_app _ _ _ (by omega), byteAt_app _ _ _ (by omega), byteAt_app _ _ _ (by omega), byteAt_app _ _ _ (by omega), byteAt_app _ _ _ (by omega)]
      exact this
end

/-- What is read of the image of a sound program. -/
theorem img_back {st rest : Int} {cls : List (Int × Int)} {e : ByteArray} {code : List Ins} (hs : soundB st rest cls e.size code = true) :
    let s := img4 st rest cls e code code.length
    imgB s = true ∧ byteAt s 2 = st ∧ byteAt s 3 = rest ∧ pCls s = cls ∧ pData s = e ∧ pCode s = code ∧ s.size = pEnd s := by
  intro s
  have hval : Cf.Valid st rest cls := by
    refine Cf.valid_of ?_
    unfold soundB at hs
    simp only [Bool.and_eq_true] at hs
    exact hs.1.1
  have hd : e.size ≤ 255 ∧ withinB code.length 1 255 = true ∧ codeB code code.length = true := by
    unfold soundB at hs
    simp only [Bool.and_eq_true, decide_eq_true_eq] at hs
    exact ⟨hs.1.2.1, hs.2.1, hs.2.2⟩
  have hn : code.length ≤ 255 := by have := hd.2.1; unfold withinB at this; simp at this; omega
  have he := hd.1
  have st0 := hval.st0
  have st1 := hval.st1
  have re0 := hval.re0
  have re1 := hval.re1
  have n1 := hval.n1
  have hg : ∀ i, i < cls.length → (0 ≤ Cf.gr cls i ∧ Cf.gr cls i ≤ 255) ∧ 0 ≤ Cf.sl cls i ∧ Cf.sl cls i ≤ 255 := fun i hi => by
    have := hval.g0 i hi
    have := hval.g1 i hi
    have := hval.s0 i hi
    have := hval.s1 i hi
    omega
  have hb : ∀ i, i < code.length → (0 ≤ (code.getD i Ins.no).op ∧ (code.getD i Ins.no).op ≤ 255) ∧ (0 ≤ (code.getD i Ins.no).a ∧ (code.getD i Ins.no).a ≤ 255) ∧ (0 ≤ (code.getD i Ins.no).b ∧ (code.getD i Ins.no).b ≤ 255) ∧ (0 ≤ (code.getD i Ins.no).c ∧ (code.getD i Ins.no).c ≤ 255) := fun i hi => may_bd (codeB_at hd.2.2 hi) (by omega)
  have hsize : s.size = 7 + 2 * cls.length + e.size + 4 * code.length := img4_size _ _ _ _ _ _
  have hpre : ∀ k, k < 7 + 2 * cls.length + e.size → byteAt s k = byteAt (img3 st rest cls e code.length) k := fun k hk => img4_pre _ _ _ _ _ _ _ hk
  have h1 := img1_at (st := st) (rest := rest) (cls := cls) (by omega) (by omega) (by omega) (by omega) (by omega)
  have h5 : ∀ k, k < 5 → byteAt s k = byteAt (img1 st rest cls) k := fun k hk => by rw [hpre k (by omega), img3_pre _ _ _ _ _ _ hk]
  have hN : pN s = cls.length := by unfold pN; rw [h5 4 (by omega), h1.2.2]; simp
  have hD : pD s = 5 + 2 * cls.length := by unfold pD; rw [hN]
  have h3 := img3_at (st := st) (rest := rest) (cls := cls) (e := e) he code.length hn
  have hM : pM s = e.size := by unfold pM; rw [hD, hpre _ (by omega), h3.1]; simp
  have hF : pF s = 6 + 2 * cls.length + e.size := by unfold pF; rw [hD, hM]; omega
  have hL : pL s = code.length := by unfold pL; rw [hF, hpre _ (by omega), h3.2.2]; simp
  have hE : pEnd s = s.size := by unfold pEnd; rw [hF, hL, hsize]; omega
  have hcls : pCls s = cls := by
    apply List.ext_getElem?
    intro i
    unfold pCls
    rw [hN]
    by_cases hi : i < cls.length
    · have h2 := img2_at (st := st) (rest := rest) hg cls.length i (Nat.le_refl _) hi
      rw [List.getElem?_eq_getElem hi]
      simp only [List.getElem?_map, List.getElem?_range hi, Option.map_some]
      rw [hpre _ (by omega), hpre _ (by omega), img3_cls _ _ (by omega), img3_cls _ _ (by omega), h2.1, h2.2]
      simp [Cf.gr, Cf.sl, List.getD_eq_getElem?_getD, List.getElem?_eq_getElem hi]
    · rw [List.getElem?_eq_none (by simp; omega), List.getElem?_eq_none (by omega)]
  have hcode : pCode s = code := by
    apply List.ext_getElem?
    intro i
    unfold pCode
    rw [hL]
    by_cases hi : i < code.length
    · have h4 := img4_at (st := st) (rest := rest) (cls := cls) (e := e) hb code.length i (Nat.le_refl _) hi
      rw [List.getElem?_eq_getElem hi]
      simp only [List.getElem?_map, List.getElem?_range hi, Option.map_some]
      unfold pIns
      rw [hF, show 6 + 2 * cls.length + e.size + 1 + 4 * i = 7 + 2 * cls.length + e.size + 4 * i by omega, h4.1, h4.2.1, h4.2.2.1, h4.2.2.2]
      simp [List.getD_eq_getElem?_getD, List.getElem?_eq_getElem hi]
    · rw [List.getElem?_eq_none (by simp; omega), List.getElem?_eq_none (by omega)]
  have hdata : pData s = e := by
    unfold pData
    rw [if_pos (by omega), ← pDataG_eq (by omega)]
    apply bext
    show ((List.range (pM s)).map fun j => UInt8.ofNat (byteAt s (pD s + 1 + j)).toNat) = _
    apply List.ext_getElem?
    intro i
    rw [hM, hD]
    by_cases hi : i < e.size
    · simp only [List.getElem?_map, List.getElem?_range hi, Option.map_some]
      rw [hpre _ (by omega), show 5 + 2 * cls.length + 1 + i = 6 + 2 * cls.length + i by omega, h3.2.1 i hi, byteAt_list hi]
    · rw [List.getElem?_eq_none (by simp; omega), List.getElem?_eq_none (by simp; omega)]
  have hst : byteAt s 2 = st := by rw [h5 2 (by omega), h1.1]
  have hre : byteAt s 3 = rest := by rw [h5 3 (by omega), h1.2.1]
  have hhead : pHead s = true := by
    unfold pHead
    rw [h5 0 (by omega), h5 1 (by omega), (img1_head st rest cls).1, (img1_head st rest cls).2]
    rfl
  refine ⟨?_, hst, hre, hcls, hdata, hcode, hE.symm⟩
  unfold imgB pSound
  rw [hhead, hst, hre, hcls, hcode, hM, hs]
  simp [hE]

/-- Two texts that agree as far as one of them goes: at most one is an image, if their lengths differ. -/
theorem imgB_prefix {d s : ByteArray} (hp : ∀ k, k < d.size → byteAt s k = byteAt d k) (hd : imgB d = true) : pEnd s = d.size := by
  unfold imgB at hd
  simp only [Bool.and_eq_true, decide_eq_true_eq] at hd
  have hE := hd.1.2
  have h0 : pEnd d = pF d + 1 + 4 * pL d := rfl
  have h1 : pF d = pD d + 1 + pM d := rfl
  have h2 : pD d = 5 + 2 * pN d := rfl
  have hN : pN s = pN d := by unfold pN; rw [hp 4 (by omega)]
  have hD : pD s = pD d := by unfold pD; rw [hN]
  have hM : pM s = pM d := by unfold pM; rw [hD, hp _ (by omega)]
  have hF : pF s = pF d := by unfold pF; rw [hD, hM]
  have hL : pL s = pL d := by unfold pL; rw [hF, hp _ (by omega)]
  unfold pEnd
  rw [hF, hL]
  omega
theorem imgB_end {d : ByteArray} (h : imgB d = true) : pEnd d = d.size := by
  unfold imgB at h
  simp only [Bool.and_eq_true, decide_eq_true_eq] at h
  exact h.1.2
theorem imgB_short {s : ByteArray} (h : imgB s = true) (k : Nat) (hk : k < s.size) : imgB (s.extract 0 k) = false := by
  have hsz : (s.extract 0 k).size = k := by rw [ByteArray.size_extract]; omega
  cases hb : imgB (s.extract 0 k) with
  | false => rfl
  | true =>
    have := imgB_prefix (s := s) (fun j hj => by
      rw [hsz] at hj
      unfold byteAt
      rw [Go.Lib.extract_data]
      simp [hj]) hb
    have := imgB_end h
    omega
theorem imgB_long {s c : ByteArray} (h : imgB s = true) (hc : 0 < c.size) : imgB (s ++ c) = false := by
  have hsz : (s ++ c).size = s.size + c.size := ByteArray.size_append
  cases hb : imgB (s ++ c) with
  | false => rfl
  | true =>
    have := imgB_prefix (d := s) (s := s ++ c) (fun j hj => byteAt_app _ _ _ hj) h
    have := imgB_end hb
    omega
end Go.Proofs.Ytjikemhmnkckcab
/- The statements' same; Run of what is no image; refusedImage. -/
namespace Go.Proofs.Ytjikemhmnkckcab
open Go.RowKit
attribute [local go_sem ↓] Go.wp_at_zero Go.wp_at_succ

set_option maxRecDepth 100000 in
set_option maxHeartbeats 3200000 in
theorem ksame_any (st rest : Int) (a b : Option Addr) (cap capb : Nat) (cls : List (Int × Int)) (d : ByteArray) (ia ib : Option Addr) (icap icapb : Nat) (code : List Ins) (w : World) (ha : CRow w a cap cls) (hb : CRow w b capb cls) (hia : IRow w ia icap code) (hib : IRow w ib icapb code) :
    Calls Try.prog 17 #[.agg #[.int .i64 st, .int .i64 rest, .slice a cls.length cap, .string d, .slice ia code.length icap], .agg #[.int .i64 st, .int .i64 rest, .slice b cls.length capb, .string d, .slice ib code.length icapb]] w fun e w' => e = .returned (.bool true) ∧ Below w.heap.size w w' := by
  have l1 := hia.len
  have l2 := hia.cap
  have l3 := ha.len
  have l4 := ha.cap
  unfold maxLen at l2 l4
  have HA := hide2 ha
  have HB := hide2 hb
  have HIA := hide2 hia
  have HIB := hide2 hib
  have e0 : (st != st) = false := by simp
  have e1 : (rest != rest) = false := by simp
  have e2 : (((cls.length : Nat) : Int) != ((cls.length : Nat) : Int)) = false := by simp
  have e3 : (((code.length : Nat) : Int) != ((code.length : Nat) : Int)) = false := by simp
  clear ha hb hia hib
  go_enter Try.func17, Try.ntmps17
  go_upto_region 1 with (fail)
  obtain ⟨wa, hwa⟩ : ∃ wa, wa = (w.alloc (.cells #[.int .i64 st, .int .i64 rest, .slice a cls.length cap, .string d, .slice ia code.length icap] 27)).alloc (.cells #[.int .i64 st, .int .i64 rest, .slice b cls.length capb, .string d, .slice ib code.length icapb] 27) := ⟨_, rfl⟩
  rw [← hwa]
  have HBA : Hid (Below w.heap.size w wa) := by show Below _ _ _; rw [hwa]; exact ((Below.refl _ _).alloc (Nat.le_refl _) _).alloc (by simp) _
  have HP1 : Hid (Blk wa w.heap.size 27 [.int .i64 st, .int .i64 rest, .slice a cls.length cap, .string d, .slice ia code.length icap]) := by
    show Blk _ _ _ _; rw [hwa]; exact (Below.heap_alloc _ _ _ (by simp)).trans (heap_alloc_new w _)
  have HQ1 : Hid (Blk wa (w.heap.size + 1) 27 [.int .i64 st, .int .i64 rest, .slice b cls.length capb, .string d, .slice ib code.length icapb]) := by
    show Blk _ _ _ _; rw [hwa, show w.heap.size + 1 = (w.alloc (.cells #[.int .i64 st, .int .i64 rest, .slice a cls.length cap, .string d, .slice ia code.length icap] 27)).heap.size by simp]; exact heap_alloc_new _ _
  clear hwa
  have p0 := HP1.out.cell (j := 0) rfl
  have p1 := HP1.out.cell (j := 1) rfl
  have p2 := HP1.out.cell (j := 2) rfl
  have p3 := HP1.out.cell (j := 3) rfl
  have p4 := HP1.out.cell (j := 4) rfl
  have q0 := HQ1.out.cell (j := 0) rfl
  have q1 := HQ1.out.cell (j := 1) rfl
  have q2 := HQ1.out.cell (j := 2) rfl
  have q3 := HQ1.out.cell (j := 3) rfl
  have q4 := HQ1.out.cell (j := 4) rfl
  go_wp2
  go_loopw [5] (fun i wr => ∃ m : Nat, m ≤ cls.length ∧ i = .int .i64 (m : Int) ∧ Hid (Below wa.heap.size wa wr)) (fun i _ => cls.length - (intOf i).toNat)
  case atStart => exact ⟨0, by omega, rfl, Below.refl _ _⟩
  case round =>
    obtain ⟨m, hm, rfl, HBR⟩ := hrel
    have p2' := (HBR.out.cell (p := ⟨w.heap.size, 2, none⟩) HP1.out.lt).trans p2
    have q2' := (HBR.out.cell (p := ⟨w.heap.size + 1, 2, none⟩) HQ1.out.lt).trans q2
    have p4' := (HBR.out.cell (p := ⟨w.heap.size, 4, none⟩) HP1.out.lt).trans p4
    clear p0 p1 p3 q0 q1 q3 p2 q2
    by_cases hlt : m < cls.length
    · have HWR : Hid (Below w.heap.size w wr) := HBA.out.trans (HBR.out.mono HBA.out.size)
      obtain ⟨g, off, rfl, hgl, hcell⟩ := HA.out.cells (by omega)
      obtain ⟨g', off', rfl, hgl', hcell'⟩ := HB.out.cells (by omega)
      have x0' := (HWR.out.cell (p := ⟨g, off + m * 2, none⟩) hgl).trans (hcell m hlt).1
      have x1' := (HWR.out.cell (p := ⟨g, off + m * 2 + 1, none⟩) hgl).trans (hcell m hlt).2
      have y0' := (HWR.out.cell (p := ⟨g', off' + m * 2, none⟩) hgl').trans (hcell' m hlt).1
      have y1' := (HWR.out.cell (p := ⟨g', off' + m * 2 + 1, none⟩) hgl').trans (hcell' m hlt).2
      have i0 : (0 : Int) ≤ (m : Int) := by omega
      have i1 : (m : Int) < (cls.length : Int) := by omega
      clear hcell hcell'
      generalize Cf.gr cls m = z0 at *
      generalize Cf.sl cls m = z1 at *
      go_wp2
      go_quiet (fail)
      go_wp2
      go_roundw
      case rel => exact ⟨m + 1, by omega, by go_num, below_drewN HBR.out _⟩
      case measure => simp [intOf]; omega
    · go_upto_region 10 with (fail)
      generalize wr = wv at *
      go_wp2
      go_loopw [6] (fun i wr => ∃ m : Nat, m ≤ code.length ∧ i = .int .i64 (m : Int) ∧ Hid (Below wa.heap.size wa wr)) (fun i _ => code.length - (intOf i).toNat)
      case atStart => exact ⟨0, by omega, rfl, HBR⟩
      case round =>
        obtain ⟨k, hk, rfl, HBK⟩ := hrel
        have r4 := (HBK.out.cell (p := ⟨w.heap.size, 4, none⟩) HP1.out.lt).trans p4
        have s4 := (HBK.out.cell (p := ⟨w.heap.size + 1, 4, none⟩) HQ1.out.lt).trans q4
        clear p4 q4 p2' q2' p4'
        by_cases hlt2 : k < code.length
        · have HWR : Hid (Below w.heap.size w wr) := HBA.out.trans (HBK.out.mono HBA.out.size)
          obtain ⟨g, off, rfl, hgl, hcell⟩ := HIA.out.cells (by omega)
          obtain ⟨g', off', rfl, hgl', hcell'⟩ := HIB.out.cells (by omega)
          obtain ⟨x0, x1, x2, x3⟩ := hcell k hlt2
          obtain ⟨y0, y1, y2, y3⟩ := hcell' k hlt2
          have x0' := (HWR.out.cell (p := ⟨g, off + k * 4, none⟩) hgl).trans x0
          have x1' := (HWR.out.cell (p := ⟨g, off + k * 4 + 1, none⟩) hgl).trans x1
          have x2' := (HWR.out.cell (p := ⟨g, off + k * 4 + 2, none⟩) hgl).trans x2
          have x3' := (HWR.out.cell (p := ⟨g, off + k * 4 + 3, none⟩) hgl).trans x3
          have y0' := (HWR.out.cell (p := ⟨g', off' + k * 4, none⟩) hgl').trans y0
          have y1' := (HWR.out.cell (p := ⟨g', off' + k * 4 + 1, none⟩) hgl').trans y1
          have y2' := (HWR.out.cell (p := ⟨g', off' + k * 4 + 2, none⟩) hgl').trans y2
          have y3' := (HWR.out.cell (p := ⟨g', off' + k * 4 + 3, none⟩) hgl').trans y3
          have i0 : (0 : Int) ≤ (k : Int) := by omega
          have i1 : (k : Int) < (code.length : Int) := by omega
          clear x0 x1 x2 x3 y0 y1 y2 y3 hcell hcell'
          generalize (code.getD k Ins.no).op = z0 at *
          generalize (code.getD k Ins.no).a = z1 at *
          generalize (code.getD k Ins.no).b = z2 at *
          generalize (code.getD k Ins.no).c = z3 at *
          go_wp2
          go_quiet (fail)
          go_wp2
          go_roundw
          case rel => exact ⟨k + 1, by omega, by go_num, below_drewN HBK.out _⟩
          case measure => simp [intOf]; omega
        · go_wp2
          go_ret
          exact ⟨rfl, HBA.out.trans (HBK.out.mono HBA.out.size)⟩

/-- An outcome's cells. -/
def outC (en co st pc dr : Int) (o : ByteArray) (rep : List Value) : List Value := [.int .i64 en, .int .i64 co, .int .i64 st, .int .i64 pc, .int .i64 dr, .string o] ++ rep
def zRep : List Value := [.int .i64 0, .int .i64 0, .int .i64 0, .int .i64 0, .int .i64 0, .int .i64 0, .int .i64 0, .int .i64 0, .int .i64 0, .slice none 0 0]

set_option maxRecDepth 100000 in
set_option maxHeartbeats 3200000 in
theorem run_no (d inp : ByteArray) (vd : Value) (fuel : Int) (w : World) (hd : (d.size : Int) ≤ 9223372036854775807) (hB : imgB d = false) :
    Calls Try.prog 18 #[.string d, .string inp, vd, .int .i64 fuel] w fun e w' => e = .returned (.agg (outC 1 0 0 0 0 ⟨#[]⟩ zRep).toArray) ∧ Below w.heap.size w w' := by
  have HBB := hide2 hB
  clear hB
  go_enter Try.func18, Try.ntmps18
  go_upto_region 1 with (fail)
  obtain ⟨wa, hwa⟩ : ∃ wa, wa = w.alloc (.cells (outC 0 0 0 0 0 ⟨#[]⟩ zRep).toArray 49) := ⟨_, rfl⟩
  have HBA : Hid (Below w.heap.size w wa) := by show Below _ _ _; rw [hwa]; exact (Below.refl _ _).alloc (Nat.le_refl _) _
  have HO : Hid (Blk wa w.heap.size 49 (outC 0 0 0 0 0 ⟨#[]⟩ zRep)) := by show Blk _ _ _ _; rw [hwa]; exact Blk.alloc _ _ _
  unfold outC zRep at hwa
  simp only [List.cons_append, List.nil_append] at hwa
  rw [← hwa]
  clear hwa
  go_upto_region 2 with (go_at_call 7; refine (gread_any d wa hd).mono ?_; rintro e1 w1 ⟨a, cap, ia, icap, rfl, -, hbel, -⟩; obtain ⟨y0, y1, y2, y3, y4, y5⟩ := o_no HBB.out; rw [y0, y1, y2, y3, y4, y5]; have HB1 := hide2 hbel; have HO1 := hide2 (HO.out.below hbel HO.out.lt); clear hbel y0 y1 y2 y3 y4 y5)
  obtain ⟨w2, hw2⟩ : ∃ w2, w2 = w1.alloc (.cells #[.int .i64 0, .int .i64 0, .slice a 0 cap, .string ⟨#[]⟩, .slice ia 0 icap] 27) := ⟨_, rfl⟩
  have HX2 : Hid (Below w1.heap.size w1 w2) := by show Below _ _ _; rw [hw2]; exact (Below.refl _ _).alloc (Nat.le_refl _) _
  first
    | rw [← hw2]
    | (simp only [List.length_nil]; rw [← hw2])
  have HO2 := hide2 (HO1.out.below HX2.out HO1.out.lt)
  have hsz := HB1.out.size
  have hsz2 := HBA.out.size
  have HBL : Hid (Below w.heap.size w w2) := (HBA.out.trans (HB1.out.mono hsz2)).trans (HX2.out.mono (by omega))
  clear hw2 HX2 HO1 HB1 HO
  have hbuilt : Try.prog.built 49 [(0, .int .i64 1)] = some (outC 1 0 0 0 0 ⟨#[]⟩ zRep).toArray := by kernel_rfl
  go_upto_region 3 with (fail)
  apply wp_region_lit
  refine wpList_build rfl 49 _ rfl (by simp only [List.map_toArray, List.map_cons, List.map_nil, Act.eval]; rw [hbuilt]; rfl) ?_
  simp only [List.map_toArray, List.map_cons, List.map_nil, Act.eval, hbuilt, Option.getD_some]
  refine wpList_store_row rfl 49 _ _ rfl w.heap.size (outC 1 0 0 0 0 ⟨#[]⟩ zRep).toArray rfl rfl 49 _ HO2.out (by kernel_rfl) rfl (by kernel_rfl) ?_
  go_wp2
  refine bodyPost_ret (v := .agg (outC 1 0 0 0 0 ⟨#[]⟩ zRep).toArray) ?_ rfl ⟨rfl, ?_⟩
  · exact results_cell_row Try.results18 _ _ w.heap.size 49 (outC 1 0 0 0 0 ⟨#[]⟩ zRep).toArray (0, 0) _ rfl (setRow_heap w2 _ _ _ _ _ HO2.out) Try.underlying49 rfl (by kernel_rfl)
  exact HBL.out.trans ⟨rfl, rfl, rfl, by simp [World.setRow], fun k hk => setRow_other w2 _ k _ (by omega)⟩
end Go.Proofs.Ytjikemhmnkckcab
