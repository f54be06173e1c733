import Derived.Test.YtjikemhmnkckcabJ47
import Derived.Test.YtjikemhmnkckcabJ39
/- A program is read back from its image; a part of an image is none, nor is one with a byte behind it. -/
namespace Go.Proofs.Ytjikemhmnkckcab
open Go.RowKit

section
variable {st rest : Int} {cls : List (Int × Int)} {e : ByteArray} {code : List Ins}
theorem img1_at (s0 : 0 ≤ st) (s1 : st ≤ 255) (r0 : 0 ≤ rest) (r1 : rest ≤ 255) (n1 : cls.length ≤ 255) : byteAt (img1 st rest cls) 2 = st ∧ byteAt (img1 st rest cls) 3 = rest ∧ byteAt (img1 st rest cls) 4 = cls.length := by
  unfold img1
  have e2 : (⟨#[71, 82]⟩ : ByteArray).size = 2 := rfl
  have h3 : ((⟨#[71, 82]⟩ : ByteArray) ++ bOne st).size = 3 := by rw [ByteArray.size_append, e2]; rfl
  have h4 : ((⟨#[71, 82]⟩ : ByteArray) ++ bOne st ++ bOne rest).size = 4 := by rw [ByteArray.size_append, h3]; rfl
  refine ⟨?_, ?_, ?_⟩
  · rw [byteAt_app _ _ _ (by omega), byteAt_app _ _ _ (by omega)]
    exact byteAt_app_one _ st s0 s1
  · rw [byteAt_app _ _ _ (by omega), ← h3]
    exact byteAt_app_one _ rest r0 r1
  · rw [← h4]
    exact byteAt_app_one _ (cls.length : Int) (by omega) (by omega)
theorem img2_at (hg : ∀ i, i < cls.length → (0 ≤ Cf.gr cls i ∧ Cf.gr cls i ≤ 255) ∧ 0 ≤ Cf.sl cls i ∧ Cf.sl cls i ≤ 255) (m i : Nat) (hm : m ≤ cls.length) (hi : i < m) : byteAt (img2 st rest cls m) (5 + 2 * i) = Cf.gr cls i ∧ byteAt (img2 st rest cls m) (6 + 2 * i) = Cf.sl cls i := by
  induction m with
  | zero => omega
  | succ m ih =>
    unfold img2
    have hs := img2_size st rest cls m
    have hs2 : (img2 st rest cls m ++ bOne (Cf.gr cls m)).size = 6 + 2 * m := by rw [ByteArray.size_append, bOne_size, hs]; omega
    by_cases h : i = m
    · subst h
      refine ⟨?_, ?_⟩
      · rw [byteAt_app _ _ _ (by omega), ← hs]
        exact byteAt_app_one _ _ (hg i (by omega)).1.1 (hg i (by omega)).1.2
      · rw [← hs2]
        exact byteAt_app_one _ _ (hg i (by omega)).2.1 (hg i (by omega)).2.2
    · have := ih (by omega) (by omega)
      rw [byteAt_app _ _ _ (by omega), byteAt_app _ _ _ (by omega), byteAt_app _ _ _ (by omega), byteAt_app _ _ _ (by omega)]
      exact this
theorem byteAt_right (b c : ByteArray) (j : Nat) : byteAt (b ++ c) (b.size + j) = byteAt c j := by
  unfold byteAt
  rw [app_list, List.getElem?_append_right (by simp)]
  simp
theorem img3_at (he : e.size ≤ 255) (n : Nat) (hn : n ≤ 255) : byteAt (img3 st rest cls e n) (5 + 2 * cls.length) = e.size ∧ (∀ j, j < e.size → byteAt (img3 st rest cls e n) (6 + 2 * cls.length + j) = byteAt e j) ∧ byteAt (img3 st rest cls e n) (6 + 2 * cls.length + e.size) = n := by
  have hs := img2_size st rest cls cls.length
  have hs2 : (img2 st rest cls cls.length ++ bOne (e.size : Int)).size = 6 + 2 * cls.length := by rw [ByteArray.size_append, bOne_size, hs]; omega
  have hs3 : (img2 st rest cls cls.length ++ bOne (e.size : Int) ++ e).size = 6 + 2 * cls.length + e.size := by rw [ByteArray.size_append, hs2]
  refine ⟨img3_len _ _ _ _ _ he, fun j hj => ?_, ?_⟩
  · unfold img3
    rw [byteAt_app _ _ _ (by omega), ← hs2]
    exact byteAt_right _ _ j
  · unfold img3
    rw [← hs3]
    exact byteAt_app_one _ (n : Int) (by omega) (by omega)
theorem img3_cls (n : Nat) (k : Nat) (hk : k < 5 + 2 * cls.length) : byteAt (img3 st rest cls e n) k = byteAt (img2 st rest cls cls.length) k := by
  have hs := img2_size st rest cls cls.length
  unfold img3
  rw [byteAt_app _ _ _ (by simp only [ByteArray.size_append, bOne_size]; omega), byteAt_app _ _ _ (by simp only [ByteArray.size_append, bOne_size]; omega), byteAt_app _ _ _ (by omega)]
theorem img4_at (hb : ∀ i, i < code.length → (0 ≤ (code.getD i Ins.no).op ∧ (code.getD i Ins.no).op ≤ 255) ∧ (0 ≤ (code.getD i Ins.no).a ∧ (code.getD i Ins.no).a ≤ 255) ∧ (0 ≤ (code.getD i Ins.no).b ∧ (code.getD i Ins.no).b ≤ 255) ∧ (0 ≤ (code.getD i Ins.no).c ∧ (code.getD i Ins.no).c ≤ 255)) (t i : Nat) (ht : t ≤ code.length) (hi : i < t) :
    byteAt (img4 st rest cls e code t) (7 + 2 * cls.length + e.size + 4 * i) = (code.getD i Ins.no).op ∧ byteAt (img4 st rest cls e code t) (7 + 2 * cls.length + e.size + 4 * i + 1) = (code.getD i Ins.no).a ∧ byteAt (img4 st rest cls e code t) (7 + 2 * cls.length + e.size + 4 * i + 2) = (code.getD i Ins.no).b ∧ byteAt (img4 st rest cls e code t) (7 + 2 * cls.length + e.size + 4 * i + 3) = (code.getD i Ins.no).c := by
  induction t with
  | zero => omega
  | succ t ih =>
    unfold img4
    have hs := img4_size st rest cls e code t
    have hs1 : (img4 st rest cls e code t ++ bOne (code.getD t Ins.no).op).size = 7 + 2 * cls.length + e.size + 4 * t + 1 := by rw [ByteArray.size_append, bOne_size, hs]
    have hs2 : (img4 st rest cls e code t ++ bOne (code.getD t Ins.no).op ++ bOne (code.getD t Ins.no).a).size = 7 + 2 * cls.length + e.size + 4 * t + 2 := by rw [ByteArray.size_append, bOne_size, hs1]
    have hs3 : (img4 st rest cls e code t ++ bOne (code.getD t Ins.no).op ++ bOne (code.getD t Ins.no).a ++ bOne (code.getD t Ins.no).b).size = 7 + 2 * cls.length + e.size + 4 * t + 3 := by rw [ByteArray.size_append, bOne_size, hs2]
    by_cases h : i = t
    · subst h
      obtain ⟨o, a, b, c⟩ := hb i (by omega)
      refine ⟨?_, ?_, ?_, ?_⟩
      · rw [byteAt_app _ _ _ (by omega), byteAt_app _ _ _ (by omega), byteAt_app _ _ _ (by omega), ← hs]
        exact byteAt_app_one _ _ o.1 o.2
      · rw [byteAt_app _ _ _ (by omega), byteAt_app _ _ _ (by omega), ← hs1]
        exact byteAt_app_one _ _ a.1 a.2
      · rw [byteAt_app _ _ _ (by omega), ← hs2]
        exact byteAt_app_one _ _ b.1 b.2
      · rw [← hs3]
        exact byteAt_app_one _ _ c.1 c.2
    · have := ih (by omega) (by omega)
      rw [byteAt_app _ _ _ (by omega), byteAt_app _ _ _ (by omega), byteAt_app _ _ _ (by omega), byteAt_app _ _ _ (by omega), byteAt_app _ _ _ (by omega), byteAt_app _ _ _ (by omega), byteAt_app _ _ _ (by omega), byteAt_app _ _ _ (by omega), byteAt_app _ _ _ (by omega), byteAt_app _ _ _ (by omega), byteAt_app _ _ _ (by omega), byteAt_app _ _ _ (by omega), byteAt_app _ _ _ (by omega), byteAt_app _ _ _ (by omega), byteAt_app _ _ _ (by omega), byteAt_app _ _ _ (by omega)]
      exact this
end

/-- What is read of the image of a sound program. -/
theorem img_back {st rest : Int} {cls : List (Int × Int)} {e : ByteArray} {code : List Ins} (hs : soundB st rest cls e.size code = true) :
    let s := img4 st rest cls e code code.length
    imgB s = true ∧ byteAt s 2 = st ∧ byteAt s 3 = rest ∧ pCls s = cls ∧ pData s = e ∧ pCode s = code ∧ s.size = pEnd s := by
  intro s
  have hval : Cf.Valid st rest cls := by
    refine Cf.valid_of ?_
    unfold soundB at hs
    simp only [Bool.and_eq_true] at hs
    exact hs.1.1
  have hd : e.size ≤ 255 ∧ withinB code.length 1 255 = true ∧ codeB code code.length = true := by
    unfold soundB at hs
    simp only [Bool.and_eq_true, decide_eq_true_eq] at hs
    exact ⟨hs.1.2.1, hs.2.1, hs.2.2⟩
  have hn : code.length ≤ 255 := by have := hd.2.1; unfold withinB at this; simp at this; omega
  have he := hd.1
  have st0 := hval.st0
  have st1 := hval.st1
  have re0 := hval.re0
  have re1 := hval.re1
  have n1 := hval.n1
  have hg : ∀ i, i < cls.length → (0 ≤ Cf.gr cls i ∧ Cf.gr cls i ≤ 255) ∧ 0 ≤ Cf.sl cls i ∧ Cf.sl cls i ≤ 255 := fun i hi => by
    have := hval.g0 i hi
    have := hval.g1 i hi
    have := hval.s0 i hi
    have := hval.s1 i hi
    omega
  have hb : ∀ i, i < code.length → (0 ≤ (code.getD i Ins.no).op ∧ (code.getD i Ins.no).op ≤ 255) ∧ (0 ≤ (code.getD i Ins.no).a ∧ (code.getD i Ins.no).a ≤ 255) ∧ (0 ≤ (code.getD i Ins.no).b ∧ (code.getD i Ins.no).b ≤ 255) ∧ (0 ≤ (code.getD i Ins.no).c ∧ (code.getD i Ins.no).c ≤ 255) := fun i hi => may_bd (codeB_at hd.2.2 hi) (by omega)
  have hsize : s.size = 7 + 2 * cls.length + e.size + 4 * code.length := img4_size _ _ _ _ _ _
  have hpre : ∀ k, k < 7 + 2 * cls.length + e.size → byteAt s k = byteAt (img3 st rest cls e code.length) k := fun k hk => img4_pre _ _ _ _ _ _ _ hk
  have h1 := img1_at (st := st) (rest := rest) (cls := cls) (by omega) (by omega) (by omega) (by omega) (by omega)
  have h5 : ∀ k, k < 5 → byteAt s k = byteAt (img1 st rest cls) k := fun k hk => by rw [hpre k (by omega), img3_pre _ _ _ _ _ _ hk]
  have hN : pN s = cls.length := by unfold pN; rw [h5 4 (by omega), h1.2.2]; simp
  have hD : pD s = 5 + 2 * cls.length := by unfold pD; rw [hN]
  have h3 := img3_at (st := st) (rest := rest) (cls := cls) (e := e) he code.length hn
  have hM : pM s = e.size := by unfold pM; rw [hD, hpre _ (by omega), h3.1]; simp
  have hF : pF s = 6 + 2 * cls.length + e.size := by unfold pF; rw [hD, hM]; omega
  have hL : pL s = code.length := by unfold pL; rw [hF, hpre _ (by omega), h3.2.2]; simp
  have hE : pEnd s = s.size := by unfold pEnd; rw [hF, hL, hsize]; omega
  have hcls : pCls s = cls := by
    apply List.ext_getElem?
    intro i
    unfold pCls
    rw [hN]
    by_cases hi : i < cls.length
    · have h2 := img2_at (st := st) (rest := rest) hg cls.length i (Nat.le_refl _) hi
      rw [List.getElem?_eq_getElem hi]
      simp only [List.getElem?_map, List.getElem?_range hi, Option.map_some]
      rw [hpre _ (by omega), hpre _ (by omega), img3_cls _ _ (by omega), img3_cls _ _ (by omega), h2.1, h2.2]
      simp [Cf.gr, Cf.sl, List.getD_eq_getElem?_getD, List.getElem?_eq_getElem hi]
    · rw [List.getElem?_eq_none (by simp; omega), List.getElem?_eq_none (by omega)]
  have hcode : pCode s = code := by
    apply List.ext_getElem?
    intro i
    unfold pCode
    rw [hL]
    by_cases hi : i < code.length
    · have h4 := img4_at (st := st) (rest := rest) (cls := cls) (e := e) hb code.length i (Nat.le_refl _) hi
      rw [List.getElem?_eq_getElem hi]
      simp only [List.getElem?_map, List.getElem?_range hi, Option.map_some]
      unfold pIns
      rw [hF, show 6 + 2 * cls.length + e.size + 1 + 4 * i = 7 + 2 * cls.length + e.size + 4 * i by omega, h4.1, h4.2.1, h4.2.2.1, h4.2.2.2]
      simp [List.getD_eq_getElem?_getD, List.getElem?_eq_getElem hi]
    · rw [List.getElem?_eq_none (by simp; omega), List.getElem?_eq_none (by omega)]
  have hdata : pData s = e := by
    unfold pData
    rw [if_pos (by omega), ← pDataG_eq (by omega)]
    apply bext
    show ((List.range (pM s)).map fun j => UInt8.ofNat (byteAt s (pD s + 1 + j)).toNat) = _
    apply List.ext_getElem?
    intro i
    rw [hM, hD]
    by_cases hi : i < e.size
    · simp only [List.getElem?_map, List.getElem?_range hi, Option.map_some]
      rw [hpre _ (by omega), show 5 + 2 * cls.length + 1 + i = 6 + 2 * cls.length + i by omega, h3.2.1 i hi, byteAt_list hi]
    · rw [List.getElem?_eq_none (by simp; omega), List.getElem?_eq_none (by simp; omega)]
  have hst : byteAt s 2 = st := by rw [h5 2 (by omega), h1.1]
  have hre : byteAt s 3 = rest := by rw [h5 3 (by omega), h1.2.1]
  have hhead : pHead s = true := by
    unfold pHead
    rw [h5 0 (by omega), h5 1 (by omega), (img1_head st rest cls).1, (img1_head st rest cls).2]
    rfl
  refine ⟨?_, hst, hre, hcls, hdata, hcode, hE.symm⟩
  unfold imgB pSound
  rw [hhead, hst, hre, hcls, hcode, hM, hs]
  simp [hE]

/-- Two texts that agree as far as one of them goes: at most one is an image, if their lengths differ. -/
theorem imgB_prefix {d s : ByteArray} (hp : ∀ k, k < d.size → byteAt s k = byteAt d k) (hd : imgB d = true) : pEnd s = d.size := by
  unfold imgB at hd
  simp only [Bool.and_eq_true, decide_eq_true_eq] at hd
  have hE := hd.1.2
  have h0 : pEnd d = pF d + 1 + 4 * pL d := rfl
  have h1 : pF d = pD d + 1 + pM d := rfl
  have h2 : pD d = 5 + 2 * pN d := rfl
  have hN : pN s = pN d := by unfold pN; rw [hp 4 (by omega)]
  have hD : pD s = pD d := by unfold pD; rw [hN]
  have hM : pM s = pM d := by unfold pM; rw [hD, hp _ (by omega)]
  have hF : pF s = pF d := by unfold pF; rw [hD, hM]
  have hL : pL s = pL d := by unfold pL; rw [hF, hp _ (by omega)]
  unfold pEnd
  rw [hF, hL]
  omega
theorem imgB_end {d : ByteArray} (h : imgB d = true) : pEnd d = d.size := by
  unfold imgB at h
  simp only [Bool.and_eq_true, decide_eq_true_eq] at h
  exact h.1.2
theorem imgB_short {s : ByteArray} (h : imgB s = true) (k : Nat) (hk : k < s.size) : imgB (s.extract 0 k) = false := by
  have hsz : (s.extract 0 k).size = k := by rw [ByteArray.size_extract]; omega
  cases hb : imgB (s.extract 0 k) with
  | false => rfl
  | true =>
    have := imgB_prefix (s := s) (fun j hj => by
      rw [hsz] at hj
      unfold byteAt
      rw [Go.Lib.extract_data]
      simp [hj]) hb
    have := imgB_end h
    omega
theorem imgB_long {s c : ByteArray} (h : imgB s = true) (hc : 0 < c.size) : imgB (s ++ c) = false := by
  have hsz : (s ++ c).size = s.size + c.size := ByteArray.size_append
  cases hb : imgB (s ++ c) with
  | false => rfl
  | true =>
    have := imgB_prefix (d := s) (s := s ++ c) (fun j hj => byteAt_app _ _ _ hj) h
    have := imgB_end hb
    omega
end Go.Proofs.Ytjikemhmnkckcab
/- The statements' tidy: the parts of an instruction. -/
namespace Go.Proofs.Ytjikemhmnkckcab
open Go.RowKit

/-- All numbers of the instructions are in int. -/
def insIn (code : List Ins) : Prop := ∀ i, i < code.length → (-9223372036854775808 ≤ (code.getD i Ins.no).op ∧ (code.getD i Ins.no).op ≤ 9223372036854775807) ∧ (-9223372036854775808 ≤ (code.getD i Ins.no).a ∧ (code.getD i Ins.no).a ≤ 9223372036854775807) ∧
  (-9223372036854775808 ≤ (code.getD i Ins.no).b ∧ (code.getD i Ins.no).b ≤ 9223372036854775807) ∧ (-9223372036854775808 ≤ (code.getD i Ins.no).c ∧ (code.getD i Ins.no).c ≤ 9223372036854775807)
def partV (k v n : Int) : Int := if k = 82 then kpick v 8 else if k = 66 then kpick v 256 else if k = 84 then kpick v n else 0
theorem partV_ok (k v n : Int) (hn : 0 < n) : kindB k (partV k v n) n = true := by
  unfold kindB partV withinB
  split
  · have := kpick_bd v 8 (by omega); simp; omega
  · split
    · have := kpick_bd v 256 (by omega); simp; omega
    · split
      · have := kpick_bd v n hn; simp; omega
      · simp
def tidyI (x : Ins) (n : Int) : Ins := match opKinds (kpick x.op 20) with
  | [k1, k2, k3] => ⟨kpick x.op 20, partV k1 x.a n, partV k2 x.b n, partV k3 x.c n⟩
  | _ => x
theorem tidyI_may (x : Ins) (n : Int) (hn : 0 < n) : (tidyI x n).may n = true := by
  have hb := kpick_bd x.op 20 (by omega)
  obtain ⟨k1, k2, k3, hk⟩ : ∃ k1 k2 k3 : Nat, opKinds (kpick x.op 20) = [k1, k2, k3] := by
    rcases opKinds_some (op := kpick x.op 20) (by omega) with e | e | e | e | e | e | e <;> exact ⟨_, _, _, e⟩
  unfold tidyI
  rw [hk]
  unfold Ins.may mayB
  simp only
  rw [hk]
  simp only [partV_ok _ _ _ hn, Bool.and_self]

set_option maxRecDepth 100000 in
set_option maxHeartbeats 1600000 in
theorem parts_any (op : Int) (w : World) (h : ¬ (op < 0 ∨ 19 < op)) : Calls Try.prog 32 #[.int .i64 op] w fun e w' => e = .returned (kindsV op) ∧ w = w' := by
  rcases op_cases h with rfl | rfl | rfl | rfl | rfl | rfl | rfl | rfl | rfl | rfl | rfl | rfl | rfl | rfl | rfl | rfl | rfl | rfl | rfl | rfl
  all_goals
    clear h
    go_enter Try.func32, Try.ntmps32
    go_wp2
    go_ret
    exact ⟨rfl, rfl⟩

set_option maxRecDepth 100000 in
set_option maxHeartbeats 1600000 in
theorem part_any (k v n : Int) (w : World) (hn : 0 < n) (v0 : -9223372036854775808 ≤ v) (v1 : v ≤ 9223372036854775807) : Calls Try.prog 33 #[.int .u8 k, .int .i64 v, .int .i64 n] w fun e w' => e = .returned (.int .i64 (partV k v n)) ∧ w = w' := by
  have HF : Hid (partV k v n = if k = 82 then kpick v 8 else if k = 66 then kpick v 256 else if k = 84 then kpick v n else 0) := rfl
  generalize partV k v n = res at *
  by_cases c1 : k = 82
  · rw [if_pos c1] at HF
    subst c1
    go_enter Try.func33, Try.ntmps33
    go_wp2_with (go_at_call 20; refine (kpick_any v 8 _ (by omega) v0 v1).mono ?_; rintro e1 w1 ⟨rfl, rfl⟩)
    go_ret
    exact ⟨by rw [HF.out]; rfl, rfl⟩
  · rw [if_neg c1] at HF
    have b1 : (k == 82) = false := by rw [beq_eq_false_iff_ne]; exact c1
    by_cases c2 : k = 66
    · rw [if_pos c2] at HF
      subst c2
      go_enter Try.func33, Try.ntmps33
      go_wp2_with (go_at_call 20; refine (kpick_any v 256 _ (by omega) v0 v1).mono ?_; rintro e1 w1 ⟨rfl, rfl⟩)
      go_ret
      exact ⟨by rw [HF.out]; rfl, rfl⟩
    · rw [if_neg c2] at HF
      have b2 : (k == 66) = false := by rw [beq_eq_false_iff_ne]; exact c2
      by_cases c3 : k = 84
      · rw [if_pos c3] at HF
        subst c3
        go_enter Try.func33, Try.ntmps33
        go_wp2_with (go_at_call 20; refine (kpick_any v n _ hn v0 v1).mono ?_; rintro e1 w1 ⟨rfl, rfl⟩)
        go_ret
        exact ⟨by rw [HF.out]; rfl, rfl⟩
      · rw [if_neg c3] at HF
        have b3 : (k == 84) = false := by rw [beq_eq_false_iff_ne]; exact c3
        clear c1 c2 c3
        go_enter Try.func33, Try.ntmps33
        go_wp2
        go_ret
        exact ⟨by rw [HF.out]; rfl, rfl⟩

/-- The whole. -/
def tidyN (code : List Ins) : Nat := if 255 < code.length then 255 else code.length
def tidyTo (code : List Ins) (m : Nat) : List Ins := (List.range m).map fun i => tidyI (code.getD i Ins.no) (tidyN code)
def tidyC (code : List Ins) : List Ins := if code.length = 0 then [⟨0, 0, 0, 0⟩] else tidyTo code (tidyN code)
def tidyM (st : Int) : Int := if 255 < 16 * st then 255 else 16 * st
def tidyD (st : Int) (d : ByteArray) : ByteArray := if tidyM st < d.size then d.extract 0 (tidyM st).toNat else d
theorem codeB_of {code : List Ins} {k : Nat} (h : ∀ i, i < k → (code.getD i Ins.no).may code.length = true) : codeB code k = true := by
  induction k with
  | zero => rfl
  | succ k ih => simp only [codeB, ih (fun i hi => h i (by omega)), h k (by omega), Bool.and_self]
theorem tidy_sound (st rest : Int) (cls : List (Int × Int)) (d : ByteArray) (code : List Ins) (s0 : 0 ≤ st) (s1 : st ≤ 16) (r0 : 0 ≤ rest) (r1 : rest ≤ 16) : soundB st rest (kfit cls) (tidyD st d).size (tidyC code) = true := by
  have hd : (tidyD st d).size ≤ 255 ∧ ((tidyD st d).size : Int) ≤ st * 16 := by
    have hm : 0 ≤ tidyM st ∧ tidyM st ≤ 255 ∧ tidyM st ≤ 16 * st := by unfold tidyM; split <;> omega
    unfold tidyD
    split
    · rw [ByteArray.size_extract]; omega
    · omega
  have hc : withinB (tidyC code).length 1 255 = true ∧ codeB (tidyC code) (tidyC code).length = true := by
    unfold tidyC
    split
    · exact ⟨by decide, by decide⟩
    · rename_i hn
      have hl : (tidyTo code (tidyN code)).length = tidyN code := by simp [tidyTo]
      have hN : 1 ≤ tidyN code ∧ tidyN code ≤ 255 := by unfold tidyN; split <;> omega
      refine ⟨by rw [hl]; unfold withinB; simp; omega, codeB_of fun i hi => ?_⟩
      rw [hl] at hi ⊢
      have : (tidyTo code (tidyN code)).getD i Ins.no = tidyI (code.getD i Ins.no) (tidyN code) := by simp [tidyTo, List.getD_eq_getElem?_getD, hi]
      rw [this]
      exact tidyI_may _ _ (by omega)
  unfold soundB
  rw [Cf.validB_of (kfit_valid st rest cls s0 s1 r0 r1), hc.1, hc.2]
  simp [hd.1, hd.2]
end Go.Proofs.Ytjikemhmnkckcab
