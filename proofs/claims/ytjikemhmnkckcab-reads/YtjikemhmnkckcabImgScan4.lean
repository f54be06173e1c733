import Derived.Test.YtjikemhmnkckcabImgScan3
/- The program's scanner: the instructions. -/
namespace Go.Proofs.Ytjikemhmnkckcab
open Go.RowKit

set_option maxRecDepth 100000 in
set_option maxHeartbeats 3200000 in
theorem code_any (q : Nat) (d : ByteArray) (bad : Bool) (w : World) (h : Blk w q 59 (scV d (pF d) bad)) (hd : (d.size : Int) ≤ 9223372036854775807) :
    Calls Try.prog 40 #[.pointer (some ⟨q, 0, none⟩)] w fun e w' => ∃ a cap, e = .returned (.slice a (pCode d).length cap) ∧ w'.ownsRow 0 35 4 (.slice a (pCode d).length cap) (pCode d).length ((pCode d).flatMap insCells) ∧
      (∀ g, (Value.slice a (pCode d).length cap).ownBlock = some g → w.heap.size ≤ g) ∧ Blk w' q 59 (scV d (pEnd d) bad) ∧ Kept w w' (· = q) := by
  obtain ⟨j0, hj0, hy0, hy1, hy2⟩ := info_parts info_ins
  have hql := h.lt
  have HM := hide2 (pL_cast d)
  have mle := pL_le d
  have H := hide2 h
  clear h
  go_enter Try.func40, Try.ntmps40
  go_wp2_with (go_at_call 48; refine (next_any q d (pF d) bad _ H.out hd).mono ?_; rintro e1 w1 ⟨rfl, hb1, hk1, hz1⟩; have HS : Hid (SRow w w1 q d (pF d + 1) bad 35 4 (.slice none 0 0) ((pCode d).take 0).length (((pCode d).take 0).flatMap insCells)) := ⟨hk1, hb1, ⟨rfl, .inl ⟨rfl, rfl⟩⟩, hql, fun g hg => by simp [Value.ownBlock] at hg⟩; clear hb1 hk1 hz1; rw [← HM.out])
  go_loopw [3, 4] (fun v n wr => ∃ (m : Nat) (s : Value), m ≤ pL d ∧ n = .int .i64 ((pL d : Int) - (m : Int)) ∧ s = v ∧ Hid (SRow w wr q d (pF d + 1 + 4 * m) bad 35 4 s ((pCode d).take m).length (((pCode d).take m).flatMap insCells))) (fun _ n _ => (intOf n).toNat)
  case atStart => exact ⟨0, _, by omega, by simp, rfl, HS⟩
  case round =>
    obtain ⟨m, s, hm, rfl, rfl, HR⟩ := hrel
    clear HS
    by_cases hlt : m < pL d
    · have hmI : (0 : Int) < (pL d : Int) - (m : Int) := by omega
      have HNX := hide2 (pCode_take d m hlt)
      have hcm : ((pCode d).take m).length ≤ 255 := by rw [List.length_take, pCode_len]; omega
      have HPI : Hid (pIns d m = ⟨byteAt d (pF d + 1 + 4 * m), byteAt d (pF d + 1 + 4 * m + 1), byteAt d (pF d + 1 + 4 * m + 1 + 1), byteAt d (pF d + 1 + 4 * m + 1 + 1 + 1)⟩) := rfl
      have HPE : Hid (pF d + 1 + 4 * (m + 1) = pF d + 1 + 4 * m + 1 + 1 + 1 + 1) := by show _ = _; omega
      generalize (pCode d).take m = cs at *
      generalize pF d + 1 + 4 * m = p at *
      go_upto_region 6 with (fail)
      obtain ⟨w4, hw4⟩ : ∃ w4, w4 = wr.alloc (.cells #[.int .i64 0, .int .i64 0, .int .i64 0, .int .i64 0] 35) := ⟨_, rfl⟩
      rw [← hw4]
      have hBw : Below wr.heap.size wr w4 := by rw [hw4]; exact (Below.refl _ _).alloc (Nat.le_refl _) _
      have HR0 := hide2 (HR.out.under hBw)
      have HK0 : Hid (Blk w4 wr.heap.size 35 [.int .i64 0, .int .i64 0, .int .i64 0, .int .i64 0]) := by show Blk _ _ _ _; rw [hw4]; exact heap_alloc_new _ _
      have hkq : wr.heap.size ≠ q := by have := HR.out.scan.lt; omega
      have hkw : w.heap.size ≤ wr.heap.size := HR.out.kept.size
      have hkr : ∀ g, s.ownBlock = some g → g ≠ wr.heap.size := fun g hg => by have := own_lt HR.out.row g hg; omega
      have HKR := hide2 hkr
      clear hBw hw4 hkr
      go_upto_region 7 with (go_at_call 48; refine (next_any q d (p) bad _ HR0.out.scan hd).mono ?_; rintro e1 u1 ⟨rfl, hb1, hk1, hz1⟩; have HRn := hide2 (HR0.out.next hb1 hk1); have HKn := hide2 (HK0.out.kept hk1 hkq); have k0 := HKn.out.cell (j := 0) rfl; have kf0 := HKn.out.frozen 0; clear hb1 hk1 hz1)
      generalize byteAt d (p) = x0 at *
      obtain ⟨v1, hv⟩ : ∃ v, v = u1.setCell ⟨wr.heap.size, 0, none⟩ (.int .i64 x0) := ⟨_, rfl⟩
      rw [← hv]
      have HR1 := hide2 (HRn.out.other wr.heap.size 0 (.int .i64 x0) (fun e => hkq e.symm) HKR.out hkw)
      have HK1 := hide2 (HKn.out.setCell 0 (.int .i64 x0))
      rw [← hv] at HR1 HK1
      clear hv k0 kf0 HRn HKn HR0 HK0
      go_upto_region 8 with (go_at_call 48; refine (next_any q d (p + 1) bad _ HR1.out.scan hd).mono ?_; rintro e1 u2 ⟨rfl, hb1, hk1, hz1⟩; have HRn := hide2 (HR1.out.next hb1 hk1); have HKn := hide2 (HK1.out.kept hk1 hkq); have k0 := HKn.out.cell (j := 1) rfl; have kf0 := HKn.out.frozen 1; clear hb1 hk1 hz1)
      generalize byteAt d (p + 1) = x1 at *
      obtain ⟨v2, hv⟩ : ∃ v, v = u2.setCell ⟨wr.heap.size, 1, none⟩ (.int .i64 x1) := ⟨_, rfl⟩
      rw [← hv]
      have HR2 := hide2 (HRn.out.other wr.heap.size 1 (.int .i64 x1) (fun e => hkq e.symm) HKR.out hkw)
      have HK2 := hide2 (HKn.out.setCell 1 (.int .i64 x1))
      rw [← hv] at HR2 HK2
      clear hv k0 kf0 HRn HKn HR1 HK1
      go_upto_region 9 with (go_at_call 48; refine (next_any q d (p + 1 + 1) bad _ HR2.out.scan hd).mono ?_; rintro e1 u3 ⟨rfl, hb1, hk1, hz1⟩; have HRn := hide2 (HR2.out.next hb1 hk1); have HKn := hide2 (HK2.out.kept hk1 hkq); have k0 := HKn.out.cell (j := 2) rfl; have kf0 := HKn.out.frozen 2; clear hb1 hk1 hz1)
      generalize byteAt d (p + 1 + 1) = x2 at *
      obtain ⟨v3, hv⟩ : ∃ v, v = u3.setCell ⟨wr.heap.size, 2, none⟩ (.int .i64 x2) := ⟨_, rfl⟩
      rw [← hv]
      have HR3 := hide2 (HRn.out.other wr.heap.size 2 (.int .i64 x2) (fun e => hkq e.symm) HKR.out hkw)
      have HK3 := hide2 (HKn.out.setCell 2 (.int .i64 x2))
      rw [← hv] at HR3 HK3
      clear hv k0 kf0 HRn HKn HR2 HK2
      go_upto_region 10 with (go_at_call 48; refine (next_any q d (p + 1 + 1 + 1) bad _ HR3.out.scan hd).mono ?_; rintro e1 u4 ⟨rfl, hb1, hk1, hz1⟩; have HRn := hide2 (HR3.out.next hb1 hk1); have HKn := hide2 (HK3.out.kept hk1 hkq); have k0 := HKn.out.cell (j := 3) rfl; have kf0 := HKn.out.frozen 3; clear hb1 hk1 hz1)
      generalize byteAt d (p + 1 + 1 + 1) = x3 at *
      obtain ⟨v4, hv⟩ : ∃ v, v = u4.setCell ⟨wr.heap.size, 3, none⟩ (.int .i64 x3) := ⟨_, rfl⟩
      rw [← hv]
      have HR4 := hide2 (HRn.out.other wr.heap.size 3 (.int .i64 x3) (fun e => hkq e.symm) HKR.out hkw)
      have HK4 := hide2 (HKn.out.setCell 3 (.int .i64 x3))
      rw [← hv] at HR4 HK4
      clear hv k0 kf0 HRn HKn HR3 HK3
      have k0 := HK4.out.cell (j := 0) rfl
      have k1 := HK4.out.cell (j := 1) rfl
      have k2 := HK4.out.cell (j := 2) rfl
      have k3 := HK4.out.cell (j := 3) rfl
      have HX : Hid (Below v4.heap.size v4 (v4.alloc (.cells #[.int .i64 x0, .int .i64 x1, .int .i64 x2, .int .i64 x3] 35))) := (Below.refl _ _).alloc (Nat.le_refl _) _
      have HRW := hide2 (HR4.out.under HX.out).row
      go_wp2_with (at_builtin; go_loud (refine wpList_append_lies _ rfl _ _ _ rfl 0 35 j0 _ 4 32 Try.underlying25 hj0 hy0 hy1 hy2 rfl (by omega) s cs.length (cs.flatMap insCells) rfl HRW.out ⟨v4.heap.size, 0, none⟩ 1 1 [.int .i64 x0, .int .i64 x1, .int .i64 x2, .int .i64 x3] rfl rfl (World.news_of_block (cs := #[.int .i64 x0, .int .i64 x1, .int .i64 x2, .int .i64 x3]) (t := 35) (fr := (0, 0)) (heap_alloc_new v4 _)) (by simp [Value.oneCell']) (by omega) (by simp [maxLen]; omega) (by omega) (by simp) (v4.heap.size + 1) (by simp) ?_; intro gg cap2 w9 hown hgrow hat hlt2))
      have HN2 : Hid (SRow w w9 q d (pF d + 1 + 4 * (m + 1)) bad 35 4 (.slice (some ⟨gg, 0, none⟩) (cs.length + 1) cap2) ((pCode d).take (m + 1)).length (((pCode d).take (m + 1)).flatMap insCells)) := by
        have := HR4.out.add HX.out hown hgrow (by rcases hat with e | e; exact .inl e; right; omega)
        show SRow _ _ _ _ _ _ _ _ _ _ _
        rw [HNX.out, HPI.out, HPE.out]
        simpa [insCells] using this
      go_roundw
      case rel => exact ⟨m + 1, _, by omega, by go_num, rfl, HN2⟩
      case measure => simp [intOf]; omega
    · obtain rfl : m = pL d := by omega
      rw [show (pCode d).take (pL d) = pCode d from List.take_of_length_le (by rw [pCode_len]; omega)] at HR
      obtain ⟨a, cap, rfl, -, -, -⟩ := row_open HR.out.row
      go_wp2
      go_ret
      exact ⟨a, cap, rfl, HR.out.row, HR.out.far, HR.out.scan, HR.out.kept⟩
end Go.Proofs.Ytjikemhmnkckcab
