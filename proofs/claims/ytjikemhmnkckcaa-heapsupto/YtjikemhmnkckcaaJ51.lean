import Derived.Test.YtjikemhmnkckcaaJ49
import Derived.Test.YtjikemhmnkckcaaJ50
/- The end of a script that touches: every byte. -/
namespace Go.Proofs.Ytjikemhmnkckcaa
open Go.RowKit

set_option maxRecDepth 100000 in
set_option maxHeartbeats 3200000 in
theorem bytes_any (q ph : Nat) (gc : Value) (bb : Nat) (G : GSt) (pr : Nat) (vc vl vm : Value) (R : RSt) (vp : Value) (ps : List Int) (vs : Value) (w : World) (h : WRep w q ph gc bb G pr vc vl vm R vp ps vs) (hS : SimB G R) :
    Calls Try.prog 92 #[.pointer (some ⟨q, 0, none⟩)] w fun e w' => e = .returned (.bool true) ∧ Below w.heap.size w w' := by
  have HW := hide2 h
  have HS := hide2 hS
  have c0 := h.blk.cell (j := 0) rfl
  have c1 := h.blk.cell (j := 1) rfl
  have c2 := h.blk.cell (j := 2) rfl
  have hq := h.blk.lt
  have s0 := h.r.blk.cell (j := 0) rfl
  have hpr := h.r.blk.lt
  have st0 := hS.sim.rok.conf.st0
  have st1 := hS.sim.rok.conf.st1
  obtain ⟨a, cap, rfl, hcap, hmax, hrow⟩ := row_open h.ps
  unfold maxLen at hmax
  have HROW := hide2 hrow
  clear h hS hrow
  go_enter Try.func92, Try.ntmps92
  go_wp2
  go_loopw [3] (fun i wr => ∃ n : Nat, n ≤ ps.length ∧ i = .int .i64 (n : Int) ∧ Below w.heap.size w wr) (fun i _ => ((ps.length : Int) - intOf i).toNat)
  case atStart => exact ⟨0, by omega, rfl, Below.refl _ _⟩
  case round =>
    obtain ⟨n, hn, rfl, hb⟩ := hrel
    have c2r := (hb.cell (p := ⟨q, 2, none⟩) hq).trans c2
    by_cases hlt : n < ps.length
    · have hl : (n : Int) < (ps.length : Int) := by omega
      obtain ⟨g, rfl, hgl, hcell, _⟩ := HROW.out (by omega)
      have ci := hcell n (.int .i64 (ps.getD n 0)) (by
        rw [List.getElem?_map, List.getElem?_eq_getElem hlt]
        simp [List.getD_eq_getElem?_getD, List.getElem?_eq_getElem hlt])
      generalize ps.getD n 0 = y at *
      clear hcell
      obtain ⟨wo, rfl⟩ : ∃ wo, wo = wr := ⟨wr, rfl⟩
      have HBO := hide2 hb
      go_wp2
      clear hb c2r
      go_loopw [4] (fun j wx => ∃ m : Nat, m ≤ 128 ∧ j = .int .i64 (m : Int) ∧ Below w.heap.size w wx) (fun j _ => (128 - intOf j).toNat)
      case atStart => exact ⟨0, by omega, rfl, HBO.out⟩
      case round =>
        obtain ⟨m, hm, rfl, hb⟩ := hrel
        by_cases hlm : m < 128
        · have hlm' : (m : Int) < 128 := by omega
          have m0 : (0 : Int) ≤ (m : Int) := by omega
          have c0' := (hb.cell (p := ⟨q, 0, none⟩) hq).trans c0
          have c1' := (hb.cell (p := ⟨q, 1, none⟩) hq).trans c1
          have c2' := (hb.cell (p := ⟨q, 2, none⟩) hq).trans c2
          have ci' := (hb.cell (p := ⟨g, n, none⟩) hgl).trans ci
          have HWr := hide2 (HW.out.below hb)
          have HB := hide2 hb
          have hqr : q < wr.heap.size := Nat.lt_of_lt_of_le hq hb.size
          have hgr : g < wr.heap.size := Nat.lt_of_lt_of_le hgl hb.size
          obtain ⟨x, hx⟩ : ∃ x, x = wrap64 (y + (m : Int)) := ⟨_, rfl⟩
          have hx1 : IntKind.i64.wrap (y + (m : Int)) = x := by rw [hx, IntKind.wrap_i64]; unfold wrap64; rfl
          have hx2 : wrap64 (y + (m : Int)) = x := hx.symm
          have HX : Hid (x ≤ 9223372036854775807) := by show _ ≤ _; rw [hx]; exact (wrap64_bd _).2
          clear hx
          have e1 : ((R.load x 1).1 != (R.load x 1).1) = false := by simp
          have e2 : ((R.load x 1).2 != (R.load x 1).2) = false := by simp
          clear hb
          go_wp2_with fail
          go_region_held3 (fun w' => w'.cell? ⟨q, 0, none⟩ = some (.pointer (some ⟨ph, 0, none⟩)) ∧ w'.cell? ⟨q, 1, none⟩ = some (.pointer (some ⟨pr, 0, none⟩)) ∧ w'.cell? ⟨q, 2, none⟩ = some (.slice (some ⟨g, 0, none⟩) ps.length cap) ∧ w'.cell? ⟨g, n, none⟩ = some (.int .i64 y)) (go_keep)
            (first | (go_at_call 32; refine (gload_any ph gc bb G R x 1 wr.drew (HWr.out.g.kept (fun _ _ => rfl)) HS.out HX.out).mono ?_; rintro e w1 ⟨rfl, hb1⟩; have c0A : w1.cell? ⟨q, 0, none⟩ = some (.pointer (some ⟨ph, 0, none⟩)) := (hb1.cell (p := ⟨q, 0, none⟩) hqr).trans c0'; have c1A : w1.cell? ⟨q, 1, none⟩ = some (.pointer (some ⟨pr, 0, none⟩)) := (hb1.cell (p := ⟨q, 1, none⟩) hqr).trans c1'; have c2A : w1.cell? ⟨q, 2, none⟩ = some (.slice (some ⟨g, 0, none⟩) ps.length cap) := (hb1.cell (p := ⟨q, 2, none⟩) hqr).trans c2'; have ciA : w1.cell? ⟨g, n, none⟩ = some (.int .i64 y) := (hb1.cell (p := ⟨g, n, none⟩) hgr).trans ci'; have HB1 : Hid (Below wr.heap.size wr w1) := ⟨hb1.os, hb1.tape, hb1.output, hb1.size, hb1.block⟩; clear hb1))
          clear c0' c1' c2' ci'
          have hs1 := HB1.out.size
          have hq1 : q < w1.heap.size := Nat.lt_of_lt_of_le hqr hs1
          have hg1 : g < w1.heap.size := Nat.lt_of_lt_of_le hgr hs1
          go_wp2_with fail
          go_region_held3 (fun w' => w'.cell? ⟨q, 0, none⟩ = some (.pointer (some ⟨ph, 0, none⟩)) ∧ w'.cell? ⟨q, 1, none⟩ = some (.pointer (some ⟨pr, 0, none⟩)) ∧ w'.cell? ⟨q, 2, none⟩ = some (.slice (some ⟨g, 0, none⟩) ps.length cap) ∧ w'.cell? ⟨g, n, none⟩ = some (.int .i64 y)) (go_keep)
            (first | (go_at_call 83; refine (rload_any pr vc vl vm R x 1 w1.drew ((HWr.out.r.below HB1.out).kept (fun _ _ => rfl)) HS.out.sim.rok HX.out).mono ?_; rintro e w2 ⟨rfl, hb2⟩; have c0B : w2.cell? ⟨q, 0, none⟩ = some (.pointer (some ⟨ph, 0, none⟩)) := (hb2.cell (p := ⟨q, 0, none⟩) hq1).trans c0A; have c1B : w2.cell? ⟨q, 1, none⟩ = some (.pointer (some ⟨pr, 0, none⟩)) := (hb2.cell (p := ⟨q, 1, none⟩) hq1).trans c1A; have c2B : w2.cell? ⟨q, 2, none⟩ = some (.slice (some ⟨g, 0, none⟩) ps.length cap) := (hb2.cell (p := ⟨q, 2, none⟩) hq1).trans c2A; have ciB : w2.cell? ⟨g, n, none⟩ = some (.int .i64 y) := (hb2.cell (p := ⟨g, n, none⟩) hg1).trans ciA; have HB2 : Hid (Below w1.heap.size w1 w2) := ⟨hb2.os, hb2.tape, hb2.output, hb2.size, hb2.block⟩; clear hb2))
          clear c0A c1A c2A ciA c0B c1B c2B ciB
          have HBF : Hid (Below w.heap.size w w2) := (HB.out.trans (HB1.out.mono HB.out.size)).trans (HB2.out.mono (Nat.le_trans HB.out.size HB1.out.size))
          by_cases hok : (R.load x 1).2 = 0
          · have hokb : ((R.load x 1).2 != 0) = false := by simp [hok]
            clear hok
            go_wp2_with (go_at_call 40; refine (num_any _ _).mono ?_; rintro e1 w6 ⟨rfl, rfl⟩)
            go_roundw
            case rel => exact ⟨m + 1, by omega, by go_num, HBF.out⟩
            case measure => simp [intOf]; omega
          · have hokb : ((R.load x 1).2 != 0) = true := by simp [hok]
            clear hok
            go_wp2_with (go_at_call 40; refine (num_any _ _).mono ?_; rintro e1 w6 ⟨rfl, rfl⟩)
            go_roundw
            case rel => exact ⟨n + 1, by omega, by go_num, HBF.out⟩
            case measure => simp [intOf]; omega
        · obtain rfl : m = 128 := by omega
          go_wp2
          go_roundw
          case rel => exact ⟨n + 1, by omega, by go_num, hb⟩
          case measure => simp [intOf]; omega
    · obtain rfl : n = ps.length := by omega
      obtain ⟨wo, rfl⟩ : ∃ wo, wo = wr := ⟨wr, rfl⟩
      have HBO := hide2 hb
      clear HROW
      go_wp2
      clear hb c2r
      go_loopw [9] (fun j wx => ∃ m : Nat, (m : Int) ≤ 16 * R.st ∧ j = .int .i64 (m : Int) ∧ Below w.heap.size w wx) (fun j _ => (16 * R.st - intOf j).toNat)
      case atStart => exact ⟨0, by omega, rfl, HBO.out⟩
      case round =>
        obtain ⟨m, hm, rfl, hb⟩ := hrel
        have c0' := (hb.cell (p := ⟨q, 0, none⟩) hq).trans c0
        have c1' := (hb.cell (p := ⟨q, 1, none⟩) hq).trans c1
        have s0' := (hb.cell (p := ⟨pr, 0, none⟩) hpr).trans s0
        have HWr := hide2 (HW.out.below hb)
        have HB := hide2 hb
        have hqr : q < wr.heap.size := Nat.lt_of_lt_of_le hq hb.size
        by_cases hlm : (m : Int) < 16 * R.st
        · have e1 : ((R.load (16 + (m : Int)) 1).1 != (R.load (16 + (m : Int)) 1).1) = false := by simp
          have e2 : ((R.load (16 + (m : Int)) 1).2 != (R.load (16 + (m : Int)) 1).2) = false := by simp
          clear hb
          go_wp2_with fail
          refine (gload_any ph gc bb G R (16 + (m : Int)) 1 wr HWr.out.g HS.out (by omega)).mono ?_
          rintro e w1 ⟨rfl, hb1⟩
          have c1A := (hb1.cell (p := ⟨q, 1, none⟩) hqr).trans c1'
          have HB1 := hide2 hb1
          clear hb1
          go_wp2_with fail
          refine (rload_any pr vc vl vm R (16 + (m : Int)) 1 w1 (HWr.out.r.below HB1.out) HS.out.sim.rok (by omega)).mono ?_
          rintro e w2 ⟨rfl, hb2⟩
          have HBF : Hid (Below w.heap.size w w2) := (HB.out.trans (HB1.out.mono HB.out.size)).trans (hb2.mono (Nat.le_trans HB.out.size HB1.out.size))
          clear hb2
          go_wp2_with (go_at_call 40; refine (num_any _ _).mono ?_; rintro e1 w6 ⟨rfl, rfl⟩)
          go_roundw
          case rel => exact ⟨m + 1, by omega, by go_num, HBF.out⟩
          case measure => simp [intOf]; omega
        · have hge : 16 * R.st ≤ (m : Int) := by omega
          go_wp2
          go_ret
          exact ⟨rfl, hb⟩

/-- the end of it -/
theorem tends_any {vs : Value} (q n : Nat) (F : Nat → Prop) (w : World) (h : TIn vs w q n F) :
    Calls Try.prog 53 #[.pointer (some ⟨q, 0, none⟩), .bool true] w fun e w' => e = .returned (.bool true) ∧ Below w.heap.size w w' := by
  obtain ⟨ph, gc, bb, G, pr, vc, vl, vm, R, vp, ps, hW, hS, h1, h2, h3, hF⟩ := h
  have HW := hide2 hW
  have HS := hide2 hS
  clear hW hS hF h1 h2 h3
  go_enter Try.func53, Try.ntmps53
  go_wp2_with fail
  refine (bytes_any q ph gc bb G pr vc vl vm R vp ps _ w HW.out HS.out).mono ?_
  rintro e w1 ⟨rfl, hb1⟩
  go_wp2_with fail
  refine (tags_any q ph gc bb G pr vc vl vm R vp ps _ w1 (HW.out.below hb1)).mono ?_
  rintro e w2 ⟨rfl, hb2⟩
  go_wp2
  go_ret
  exact ⟨rfl, hb1.trans (hb2.mono hb1.size)⟩

theorem tblock_any {vs : Value} (q n : Nat) (F : Nat → Prop) (o0 o1 o2 o3 o4 o5 o6 o7 o8 : Int) (w : World) (h : TIn vs w q n F) (hn : n < 1048576) (h02 : o2 ≤ 9223372036854775807) (h04 : o4 ≤ 9223372036854775807) (v0 : -9223372036854775808 ≤ o6) (v1 : o6 ≤ 9223372036854775807) (ho : o0 = 1 ∨ o0 = 2 ∨ o0 = 3 ∨ o0 = 4) :
    Calls Try.prog 82 #[.pointer (some ⟨q, 0, none⟩), .agg #[.int .i64 o0, .int .i64 o1, .int .i64 o2, .int .i64 o3, .int .i64 o4, .int .i64 o5, .int .i64 o6, .int .i64 o7, .int .i64 o8]] w fun e w' => ∃ F', e = .returned (.bool true) ∧ TIn vs w' q (n + 1) F' ∧ Kept w w' F ∧ ∀ b, F' b → F b ∨ w.heap.size ≤ b := by
  rcases ho with rfl | rfl | rfl | rfl
  · exact tb_malloc q n F o1 o2 o3 o4 o5 o6 o7 o8 w h hn h02 h04 v0 v1
  · exact tb_free q n F o1 o2 o3 o4 o5 o6 o7 o8 w h hn h02 h04 v0 v1
  · exact tb_realloc q n F o1 o2 o3 o4 o5 o6 o7 o8 w h hn h02 h04 v0 v1
  · exact tb_usable q n F o1 o2 o3 o4 o5 o6 o7 o8 w h hn h02 h04 v0 v1

set_option maxRecDepth 100000 in
set_option maxHeartbeats 1600000 in
theorem ts_block {vs : Value} (q n : Nat) (F : Nat → Prop) (o0 o1 o2 o3 o4 o5 o6 o7 o8 : Int) (w : World) (h : TIn vs w q n F) (hn : n < 1048576) (h02 : o2 ≤ 9223372036854775807) (h04 : o4 ≤ 9223372036854775807) (v0 : -9223372036854775808 ≤ o6) (v1 : o6 ≤ 9223372036854775807) (ho : o0 = 1 ∨ o0 = 2 ∨ o0 = 3 ∨ o0 = 4) :
    Calls Try.prog 51 #[.pointer (some ⟨q, 0, none⟩), .agg #[.int .i64 o0, .int .i64 o1, .int .i64 o2, .int .i64 o3, .int .i64 o4, .int .i64 o5, .int .i64 o6, .int .i64 o7, .int .i64 o8]] w fun e w' => ∃ F', e = .returned (.bool true) ∧ TIn vs w' q (n + 1) F' ∧ Kept w w' F ∧ ∀ b, F' b → F b ∨ w.heap.size ≤ b := by
  have HI := hide2 h
  obtain ⟨ph, gc, bb, G, pr, vc, vl, vm, R, vp, ps, hW, _, _, _, _, hF⟩ := h
  have HW := hide2 hW
  clear hF hW
  have H2 := hide2 h02
  have H4 := hide2 h04
  have V0 := hide2 v0
  have V1 := hide2 v1
  clear h02 h04 v0 v1
  go_enter Try.func51, Try.ntmps51
  go_wp2_with fail
  obtain ⟨wa, hwa⟩ : ∃ wa, wa = w.alloc (.cells #[.int .i64 o0, .int .i64 o1, .int .i64 o2, .int .i64 o3, .int .i64 o4, .int .i64 o5, .int .i64 o6, .int .i64 o7, .int .i64 o8] 98) := ⟨_, rfl⟩
  rw [← hwa]
  have hba : Below w.heap.size w wa := by rw [hwa]; exact (Below.refl _ _).alloc (Nat.le_refl _) _
  have HO : Hid (Blk wa w.heap.size 98 [.int .i64 o0, .int .i64 o1, .int .i64 o2, .int .i64 o3, .int .i64 o4, .int .i64 o5, .int .i64 o6, .int .i64 o7, .int .i64 o8]) := by rw [hwa]; exact Blk.alloc _ _ _
  have HWa := hide2 (HW.out.below hba)
  clear hwa
  refine (pointer_any q _ _ vp _ ps o1 o2 wa HWa.out.blk HWa.out.ps).mono ?_
  rintro e0 w0 ⟨rfl, hb0⟩
  have hw0 : Below w.heap.size w w0 := hba.trans (hb0.mono hba.size)
  have HO0 := hide2 (HO.out.below hb0 HO.out.lt)
  have HI0 := hide2 (HI.out.below hw0)
  have d0 := HO0.out.cell (j := 0) rfl
  have d1 := HO0.out.cell (j := 1) rfl
  have d2 := HO0.out.cell (j := 2) rfl
  have d3 := HO0.out.cell (j := 3) rfl
  have d4 := HO0.out.cell (j := 4) rfl
  have d5 := HO0.out.cell (j := 5) rfl
  have d6 := HO0.out.cell (j := 6) rfl
  have d7 := HO0.out.cell (j := 7) rfl
  have d8 := HO0.out.cell (j := 8) rfl
  generalize ptrOf ps o1 o2 = pt at *
  rcases ho with rfl | rfl | rfl | rfl
  all_goals
    go_wp2_with (go_at_call 82; refine (tblock_any q n F _ o1 o2 o3 o4 o5 o6 o7 o8 w0 HI0.out hn H2.out H4.out V0.out V1.out (by omega)).mono ?_; rintro e1 w1 ⟨F', rfl, hI1, hk1, hF1⟩)
    go_ret
    exact ⟨F', rfl, hI1, (Kept.of_below hw0 _).trans hk1, fun b hb => (hF1 b hb).imp id fun x => Nat.le_trans hw0.size x⟩

/-- a look at a tag, by the elder contract -/
theorem ts_tag {vs : Value} (q n : Nat) (F : Nat → Prop) (o1 o2 o3 o4 o5 o6 o7 o8 : Int) (w : World) (h : TIn vs w q n F) (a0 : -9223372036854775808 ≤ o5) (a1 : o5 ≤ 9223372036854775807) :
    Calls Try.prog 51 #[.pointer (some ⟨q, 0, none⟩), .agg #[.int .i64 10, .int .i64 o1, .int .i64 o2, .int .i64 o3, .int .i64 o4, .int .i64 o5, .int .i64 o6, .int .i64 o7, .int .i64 o8]] w fun e w' => ∃ F', e = .returned (.bool true) ∧ TIn vs w' q (n + 1) F' ∧ Kept w w' F ∧ ∀ b, F' b → F b ∨ w.heap.size ≤ b := by
  have HI := hide2 h
  obtain ⟨ph, gc, bb, G, pr, vc, vl, vm, R, vp, ps, hW, _, _, _, _, hF⟩ := h
  refine (step_tag2 q ph gc bb G pr vc vl vm R vp ps o1 o2 o3 o4 o5 o6 o7 o8 w hW a0 a1).mono ?_
  rintro e w' ⟨rfl, hb⟩
  exact ⟨F, rfl, (HI.out.below hb).more (by omega), Kept.of_below hb _, fun b hb => .inl hb⟩
theorem tlooks_any (q n : Nat) (F : Nat → Prop) (w : World) (h : TIn (.slice none 0 0) w q n F) :
    Calls Try.prog 52 #[.pointer (some ⟨q, 0, none⟩)] w fun e w' => e = .returned (.bool true) ∧ Below w.heap.size w w' := by
  obtain ⟨ph, gc, bb, G, pr, vc, vl, vm, R, vp, ps, hW, _, _, _, _, hF⟩ := h
  refine (looks2 q _ _ _ w hW.blk).mono ?_
  rintro e w' ⟨rfl, rfl⟩
  exact ⟨rfl, Below.refl _ _⟩

def touchKinds : List Int := [1, 2, 10, 3, 4, 5, 6, 7]
theorem touchKinds_of {k : Int} (h : hasKind touchKinds k = true) : (k = 1 ∨ k = 2 ∨ k = 3 ∨ k = 4) ∨ k = 5 ∨ k = 6 ∨ k = 7 ∨ k = 10 := by
  unfold hasKind touchKinds at h
  simp at h
  omega
theorem touches_plays : Plays (TIn (.slice none 0 0)) touchKinds 1048576 true where
  lt := fun h hb => h.lt hb
  kept := fun h hk => h.kept hk
  more := fun h hm => h.more hm
  step := fun q n F o0 o1 o2 o3 o4 o5 o6 o7 o8 w h hn hk hx => by
    have h2 := hx o2 (by simp)
    have h4 := hx o4 (by simp)
    have h5 := hx o5 (by simp)
    have h6 := hx o6 (by simp)
    rcases touchKinds_of hk with ho | rfl | rfl | rfl | rfl
    · exact ts_block q n F o0 o1 o2 o3 o4 o5 o6 o7 o8 w h hn h2.2 h4.2 h6.1 h6.2 ho
    · exact ts_load q n F o1 o2 o3 o4 o5 o6 o7 o8 w h hn h2.2 h4.2 h6.1 h6.2
    · exact ts_store q n F o1 o2 o3 o4 o5 o6 o7 o8 w h hn h2.2 h4.2 h6.1 h6.2
    · exact ts_move q n F o1 o2 o3 o4 o5 o6 o7 o8 w h hn h2.2 h4.2 h6.1 h6.2
    · exact ts_tag q n F o1 o2 o3 o4 o5 o6 o7 o8 w h h5.1 h5.2
  looks := tlooks_any
  ends := tends_any
  start := fun hv h hz => TIn.start hv h hz
end Go.Proofs.Ytjikemhmnkckcaa
