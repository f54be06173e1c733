import Derived.Test.YtjikemhmnkckcaaJ52
/- Explain of a script. -/
namespace Go.Proofs.Ytjikemhmnkckcaa
open Go.RowKit

set_option maxRecDepth 100000 in
set_option maxHeartbeats 3200000 in
theorem te_explain (q n : Nat) (F : Nat → Prop) (o1 o2 o3 o4 o5 o6 o7 o8 : Int) (w : World) (h : EIn w q n F) (hn : n < 1048576) (h02 : o2 ≤ 9223372036854775807) :
    Calls Try.prog 51 #[.pointer (some ⟨q, 0, none⟩), .agg #[.int .i64 8, .int .i64 o1, .int .i64 o2, .int .i64 o3, .int .i64 o4, .int .i64 o5, .int .i64 o6, .int .i64 o7, .int .i64 o8]] w fun e w' => ∃ F', e = .returned (.bool true) ∧ EIn w' q (n + 1) F' ∧ Kept w w' F ∧ ∀ b, F' b → F b ∨ w.heap.size ≤ b := by
  obtain ⟨vs, L, F0, ⟨ph, gc, bb, G, pr, vc, vl, vm, R, vp, ps, hW, hS, h1, h2, h3, hF0⟩, hL, hl, hd, hF⟩ := h
  have HW := hide2 hW
  have HS := hide2 hS
  have HFF := hide2 (And.intro hF0 (And.intro hd hF))
  have HLL := hide2 hL
  have HBD := hide2 (And.intro (And.intro h1 h2) (And.intro h3 hl))
  have hq := hW.blk.lt
  have _HP := hide2 (ptrOf_bd ps o1 o2 h02)
  have HROOM : Hid ((L.length + 1) * 24 ≤ 140737488355328) := by show _ ≤ _; omega
  have HVSQ : Hid (vs.ownBlock ≠ some q ∧ ∀ i, i < L.length → (L.getD i undef).ownBlock ≠ some q) := ⟨fun e => hd q ((hF0 q).2 (.inl rfl)) (.inl e), fun i hi e => hd q ((hF0 q).2 (.inl rfl)) (.inr ⟨i, hi, e⟩)⟩
  clear hW hS hF0 hd hF hL h1 h2 h3 hl h02
  go_enter Try.func51, Try.ntmps51
  go_wp2_with fail
  obtain ⟨wa, hwa⟩ : ∃ wa, wa = w.alloc (.cells #[.int .i64 8, .int .i64 o1, .int .i64 o2, .int .i64 o3, .int .i64 o4, .int .i64 o5, .int .i64 o6, .int .i64 o7, .int .i64 o8] 98) := ⟨_, rfl⟩
  rw [← hwa]
  have hba : Below w.heap.size w wa := by rw [hwa]; exact (Below.refl _ _).alloc (Nat.le_refl _) _
  have hsa : wa.heap.size = w.heap.size + 1 := by rw [hwa, World.size_alloc]
  have HO : Hid (Blk wa w.heap.size 98 [.int .i64 8, .int .i64 o1, .int .i64 o2, .int .i64 o3, .int .i64 o4, .int .i64 o5, .int .i64 o6, .int .i64 o7, .int .i64 o8]) := by rw [hwa]; exact Blk.alloc _ _ _
  have HWa := hide2 (HW.out.below hba)
  clear hwa
  refine (pointer_any q _ _ vp _ ps o1 o2 wa HWa.out.blk HWa.out.ps).mono ?_
  rintro e0 w0 ⟨rfl, hb0⟩
  have HO0 := hide2 (HO.out.below hb0 HO.out.lt)
  have HW0 := hide2 (HWa.out.below hb0)
  have HBW0 : Hid (Below w.heap.size w w0) := hba.trans (hb0.mono hba.size)
  have hq0 : q < w0.heap.size := HW0.out.blk.lt
  have c0 := HW0.out.blk.cell (j := 0) rfl
  have c1 := HW0.out.blk.cell (j := 1) rfl
  have d0 := HO0.out.cell (j := 0) rfl
  have d5 := HO0.out.cell (j := 5) rfl
  have ho0 : w.heap.size < w0.heap.size := by have := hb0.size; omega
  obtain ⟨ob, hob⟩ : ∃ ob, w.heap.size = ob := ⟨_, rfl⟩
  rw [hob] at HO0 ho0 d0 d5 ⊢
  clear hba hsa hb0 HWa HO
  generalize ptrOf ps o1 o2 = pt at *
  obtain ⟨r, hr⟩ : ∃ r, gexplain G R pt o5 = r := ⟨_, rfl⟩
  have HGE := hide2 hr
  have HRE : Hid (rexplain R pt o5 = r) := by show _ = _; rw [← hr]; exact (explain_sim HS.out.sim pt o5).symm
  clear hr
  go_upto_region 22 with (fail)
  go_cut [15] from 131 (fun s15 w' => ∃ rb v, s15 = .pointer (some ⟨rb, 0, none⟩) ∧ RptAt w0 r rb v w')
  case first =>
    have mc0 := World.new_ne w0 ⟨q, 0, none⟩ c0
    have mc1 := World.new_ne w0 ⟨q, 1, none⟩ c1
    have md5 := World.new_ne w0 ⟨ob, 5, none⟩ d5
    go_region_held3 (fun w' => w'.cell? ⟨q, 0, none⟩ = some (.pointer (some ⟨ph, 0, none⟩)) ∧ w'.cell? ⟨q, 1, none⟩ = some (.pointer (some ⟨pr, 0, none⟩)) ∧ w'.cell? ⟨ob, 5, none⟩ = some (.int .i64 o5)) (go_keep)
      (first
        | (go_at_call 73; refine (gexplain_any ph gc bb G R pt o5 w0.drew (HW0.out.g.kept (fun _ _ => rfl)) HS.out.sim _HP.out).mono ?_; rw [HGE.out]; rintro e1 w1 ⟨v, rfl, hn⟩; obtain ⟨na, ncap, hv, -, -, -⟩ := row_open hn.row; subst hv; have HB1 : Hid (Below w0.heap.size w0 w1) := ⟨hn.below.os, hn.below.tape, hn.below.output, hn.below.size, hn.below.block⟩; have HNR : Hid (NearRel w0 r.near (.slice na r.near.length ncap) w1) := ⟨HB1.out, hn.row, hn.vlo⟩; have c0' : w1.cell? ⟨q, 0, none⟩ = some (.pointer (some ⟨ph, 0, none⟩)) := (HB1.out.cell (p := ⟨q, 0, none⟩) hq0).trans c0; have nc0 := World.new_ne w1 ⟨q, 0, none⟩ c0'; have c1' : w1.cell? ⟨q, 1, none⟩ = some (.pointer (some ⟨pr, 0, none⟩)) := (HB1.out.cell (p := ⟨q, 1, none⟩) hq0).trans c1; have nc1 := World.new_ne w1 ⟨q, 1, none⟩ c1'; have d5' : w1.cell? ⟨ob, 5, none⟩ = some (.int .i64 o5) := (HB1.out.cell (p := ⟨ob, 5, none⟩) ho0).trans d5; have nd5 := World.new_ne w1 ⟨ob, 5, none⟩ d5'; unfold rptV rptCells; clear hn)
        | (go_at_call 73; refine (gexplain_any ph gc bb G R pt o5 (w0.alloc (.cells #[.int .i64 0, .int .i64 0, .int .i64 0, .int .i64 0, .int .i64 0, .int .i64 0, .int .i64 0, .int .i64 0, .int .i64 0, .slice none 0 0] 64)).drew ((HW0.out.g.below ((Below.refl _ _).alloc (Nat.le_refl _) _)).kept (fun _ _ => rfl)) HS.out.sim _HP.out).mono ?_; rw [HGE.out]; rintro e1 w1 ⟨v, rfl, hn⟩; obtain ⟨na, ncap, hv, -, -, -⟩ := row_open hn.row; subst hv; have hB2 : Below (w0.heap.size + 1) (w0.alloc (.cells (rptCells (Rpt.only 0) (.slice none 0 0)).toArray 64)) w1 := ⟨hn.below.os, hn.below.tape, hn.below.output, by have := hn.below.size; simpa using this, fun b hb => hn.below.block b (by simpa using hb)⟩; have HB1 : Hid (Below w0.heap.size w0 w1) := ((Below.refl _ _).alloc (Nat.le_refl _) _).trans (hB2.mono (by omega)); have HRW := hide2 hn.row; have HVL : Hid (∀ g, (Value.slice na r.near.length ncap).ownBlock = some g → w0.heap.size + 1 ≤ g) := (fun g hg => (by have := hn.vlo g hg; simpa using this)); have HRZ : Hid (Blk w1 w0.heap.size 64 (rptCells (Rpt.only 0) (.slice none 0 0))) := (Blk.alloc w0 64 (rptCells (Rpt.only 0) (.slice none 0 0))).below hB2 (by omega); have rz0 := HRZ.out.cell (j := 0) rfl; have rz1 := HRZ.out.cell (j := 1) rfl; have rz2 := HRZ.out.cell (j := 2) rfl; have rz3 := HRZ.out.cell (j := 3) rfl; have rz4 := HRZ.out.cell (j := 4) rfl; have rz5 := HRZ.out.cell (j := 5) rfl; have rz6 := HRZ.out.cell (j := 6) rfl; have rz7 := HRZ.out.cell (j := 7) rfl; have rz8 := HRZ.out.cell (j := 8) rfl; have rz9 := HRZ.out.cell (j := 9) rfl; have rzf0 := HRZ.out.frozen 0; have rzf1 := HRZ.out.frozen 1; have rzf2 := HRZ.out.frozen 2; have rzf3 := HRZ.out.frozen 3; have rzf4 := HRZ.out.frozen 4; have rzf5 := HRZ.out.frozen 5; have rzf6 := HRZ.out.frozen 6; have rzf7 := HRZ.out.frozen 7; have rzf8 := HRZ.out.frozen 8; have rzf9 := HRZ.out.frozen 9; have hrzl := HRZ.out.lt; have c0' : w1.cell? ⟨q, 0, none⟩ = some (.pointer (some ⟨ph, 0, none⟩)) := (HB1.out.cell (p := ⟨q, 0, none⟩) hq0).trans c0; have nc0 := World.new_ne w1 ⟨q, 0, none⟩ c0'; have c1' : w1.cell? ⟨q, 1, none⟩ = some (.pointer (some ⟨pr, 0, none⟩)) := (HB1.out.cell (p := ⟨q, 1, none⟩) hq0).trans c1; have nc1 := World.new_ne w1 ⟨q, 1, none⟩ c1'; have d5' : w1.cell? ⟨ob, 5, none⟩ = some (.int .i64 o5) := (HB1.out.cell (p := ⟨ob, 5, none⟩) ho0).trans d5; have nd5 := World.new_ne w1 ⟨ob, 5, none⟩ d5'; unfold rptV rptCells; clear hn hB2))
    · go_wp2
      go_meet
      case rel => exact ⟨_, _, rfl, RptAt.behind HNR.out⟩
    · go_wp2
      go_meet
      case rel => exact ⟨_, _, rfl, RptAt.ahead HRZ.out HB1.out HRW.out HVL.out⟩
  case rest =>
    obtain ⟨rba, va, rfl, hA⟩ := hcut
    have HA := hide2 hA
    have HWC := hide2 (HW0.out.below hA.near.below)
    have c0c := (hA.near.below.cell (p := ⟨q, 0, none⟩) hq0).trans c0
    have c1c := (hA.near.below.cell (p := ⟨q, 1, none⟩) hq0).trans c1
    have d5c := (hA.near.below.cell (p := ⟨ob, 5, none⟩) ho0).trans d5
    have hqc : q < wc.heap.size := Nat.lt_of_lt_of_le hq0 hA.near.below.size
    have hoc : ob < wc.heap.size := Nat.lt_of_lt_of_le ho0 hA.near.below.size
    clear hA c0 c1 d0 d5
    go_upto_region 23 with (fail)
    generalize wc = w5 at *
    go_cut [16] from 131 (fun s16 w' => ∃ rb v, s16 = .pointer (some ⟨rb, 0, none⟩) ∧ RptAt w5 r rb v w')
    case first =>
      have mc0c := World.new_ne w5 ⟨q, 0, none⟩ c0c
      have mc1c := World.new_ne w5 ⟨q, 1, none⟩ c1c
      have md5c := World.new_ne w5 ⟨ob, 5, none⟩ d5c
      go_region_held3 (fun w' => w'.cell? ⟨q, 0, none⟩ = some (.pointer (some ⟨ph, 0, none⟩)) ∧ w'.cell? ⟨q, 1, none⟩ = some (.pointer (some ⟨pr, 0, none⟩)) ∧ w'.cell? ⟨ob, 5, none⟩ = some (.int .i64 o5)) (go_keep)
        (first
          | (go_at_call 88; refine (rexplain_any pr vc vl vm R pt o5 w5.drew (HWC.out.r.kept (fun _ _ => rfl)) HS.out.sim.rok _HP.out).mono ?_; rw [HRE.out]; rintro e1 w1 ⟨v, rfl, hn⟩; obtain ⟨na, ncap, hv, -, -, -⟩ := row_open hn.row; subst hv; have HB1 : Hid (Below w5.heap.size w5 w1) := ⟨hn.below.os, hn.below.tape, hn.below.output, hn.below.size, hn.below.block⟩; have HNR : Hid (NearRel w5 r.near (.slice na r.near.length ncap) w1) := ⟨HB1.out, hn.row, hn.vlo⟩; have c0c' : w1.cell? ⟨q, 0, none⟩ = some (.pointer (some ⟨ph, 0, none⟩)) := (HB1.out.cell (p := ⟨q, 0, none⟩) hqc).trans c0c; have nc0c := World.new_ne w1 ⟨q, 0, none⟩ c0c'; have c1c' : w1.cell? ⟨q, 1, none⟩ = some (.pointer (some ⟨pr, 0, none⟩)) := (HB1.out.cell (p := ⟨q, 1, none⟩) hqc).trans c1c; have nc1c := World.new_ne w1 ⟨q, 1, none⟩ c1c'; have d5c' : w1.cell? ⟨ob, 5, none⟩ = some (.int .i64 o5) := (HB1.out.cell (p := ⟨ob, 5, none⟩) hoc).trans d5c; have nd5c := World.new_ne w1 ⟨ob, 5, none⟩ d5c'; unfold rptV rptCells; clear hn)
          | (go_at_call 88; refine (rexplain_any pr vc vl vm R pt o5 (w5.alloc (.cells #[.int .i64 0, .int .i64 0, .int .i64 0, .int .i64 0, .int .i64 0, .int .i64 0, .int .i64 0, .int .i64 0, .int .i64 0, .slice none 0 0] 64)).drew ((HWC.out.r.below ((Below.refl _ _).alloc (Nat.le_refl _) _)).kept (fun _ _ => rfl)) HS.out.sim.rok _HP.out).mono ?_; rw [HRE.out]; rintro e1 w1 ⟨v, rfl, hn⟩; obtain ⟨na, ncap, hv, -, -, -⟩ := row_open hn.row; subst hv; have hB2 : Below (w5.heap.size + 1) (w5.alloc (.cells (rptCells (Rpt.only 0) (.slice none 0 0)).toArray 64)) w1 := ⟨hn.below.os, hn.below.tape, hn.below.output, by have := hn.below.size; simpa using this, fun b hb => hn.below.block b (by simpa using hb)⟩; have HB1 : Hid (Below w5.heap.size w5 w1) := ((Below.refl _ _).alloc (Nat.le_refl _) _).trans (hB2.mono (by omega)); have HRW := hide2 hn.row; have HVL : Hid (∀ g, (Value.slice na r.near.length ncap).ownBlock = some g → w5.heap.size + 1 ≤ g) := (fun g hg => (by have := hn.vlo g hg; simpa using this)); have HRZ : Hid (Blk w1 w5.heap.size 64 (rptCells (Rpt.only 0) (.slice none 0 0))) := (Blk.alloc w5 64 (rptCells (Rpt.only 0) (.slice none 0 0))).below hB2 (by omega); have rz0 := HRZ.out.cell (j := 0) rfl; have rz1 := HRZ.out.cell (j := 1) rfl; have rz2 := HRZ.out.cell (j := 2) rfl; have rz3 := HRZ.out.cell (j := 3) rfl; have rz4 := HRZ.out.cell (j := 4) rfl; have rz5 := HRZ.out.cell (j := 5) rfl; have rz6 := HRZ.out.cell (j := 6) rfl; have rz7 := HRZ.out.cell (j := 7) rfl; have rz8 := HRZ.out.cell (j := 8) rfl; have rz9 := HRZ.out.cell (j := 9) rfl; have rzf0 := HRZ.out.frozen 0; have rzf1 := HRZ.out.frozen 1; have rzf2 := HRZ.out.frozen 2; have rzf3 := HRZ.out.frozen 3; have rzf4 := HRZ.out.frozen 4; have rzf5 := HRZ.out.frozen 5; have rzf6 := HRZ.out.frozen 6; have rzf7 := HRZ.out.frozen 7; have rzf8 := HRZ.out.frozen 8; have rzf9 := HRZ.out.frozen 9; have hrzl := HRZ.out.lt; have c0c' : w1.cell? ⟨q, 0, none⟩ = some (.pointer (some ⟨ph, 0, none⟩)) := (HB1.out.cell (p := ⟨q, 0, none⟩) hqc).trans c0c; have nc0c := World.new_ne w1 ⟨q, 0, none⟩ c0c'; have c1c' : w1.cell? ⟨q, 1, none⟩ = some (.pointer (some ⟨pr, 0, none⟩)) := (HB1.out.cell (p := ⟨q, 1, none⟩) hqc).trans c1c; have nc1c := World.new_ne w1 ⟨q, 1, none⟩ c1c'; have d5c' : w1.cell? ⟨ob, 5, none⟩ = some (.int .i64 o5) := (HB1.out.cell (p := ⟨ob, 5, none⟩) hoc).trans d5c; have nd5c := World.new_ne w1 ⟨ob, 5, none⟩ d5c'; unfold rptV rptCells; clear hn hB2))
      · go_wp2
        go_meet
        case rel => exact ⟨_, _, rfl, RptAt.behind HNR.out⟩
      · go_wp2
        go_meet
        case rel => exact ⟨_, _, rfl, RptAt.ahead HRZ.out HB1.out HRW.out HVL.out⟩
    case rest =>
      obtain ⟨rbb, vb, rfl, hB⟩ := hcut
      have HB := hide2 hB
      have HA2 := hide2 (HA.out.later hB.near.below)
      have HW2 := hide2 (HWC.out.below hB.near.below)
      clear hB c0c c1c d5c HA HWC hqc hoc
      generalize wc = w6 at *
      obtain ⟨na, ncapa, hva, -, -, -⟩ := row_open HA2.out.near.row
      subst hva
      obtain ⟨nb, ncapb, hvb, -, -, -⟩ := row_open HB.out.near.row
      subst hvb
      obtain ⟨nl, hnl⟩ : ∃ nl, r.near.length = nl := ⟨_, rfl⟩
      have HNL := hide2 hnl
      rw [hnl] at HA2 HB
      clear hnl
      have a0 := HA2.out.blk.cell (j := 0) rfl
      have b0 := HB.out.blk.cell (j := 0) rfl
      have a1 := HA2.out.blk.cell (j := 1) rfl
      have b1 := HB.out.blk.cell (j := 1) rfl
      have a2 := HA2.out.blk.cell (j := 2) rfl
      have b2 := HB.out.blk.cell (j := 2) rfl
      have a3 := HA2.out.blk.cell (j := 3) rfl
      have b3 := HB.out.blk.cell (j := 3) rfl
      have a4 := HA2.out.blk.cell (j := 4) rfl
      have b4 := HB.out.blk.cell (j := 4) rfl
      have a5 := HA2.out.blk.cell (j := 5) rfl
      have b5 := HB.out.blk.cell (j := 5) rfl
      have a6 := HA2.out.blk.cell (j := 6) rfl
      have b6 := HB.out.blk.cell (j := 6) rfl
      have a7 := HA2.out.blk.cell (j := 7) rfl
      have b7 := HB.out.blk.cell (j := 7) rfl
      have a8 := HA2.out.blk.cell (j := 8) rfl
      have b8 := HB.out.blk.cell (j := 8) rfl
      have a9 := HA2.out.blk.cell (j := 9) rfl
      have b9 := HB.out.blk.cell (j := 9) rfl
      have hla := HA2.out.blk.lt
      have hlb := HB.out.blk.lt
      have hrowA : Hid (w6.ownsRow 0 117 3 (.slice na nl ncapa) nl (r.near.flatMap nearCells)) := by show World.ownsRow _ _ _ _ _ _ _; have := HA2.out.near.row; rw [HNL.out] at this; exact this
      have hrowB : Hid (w6.ownsRow 0 117 3 (.slice nb nl ncapb) nl (r.near.flatMap nearCells)) := by show World.ownsRow _ _ _ _ _ _ _; have := HB.out.near.row; rw [HNL.out] at this; exact this
      have HBW6 : Hid (Below w.heap.size w w6) := HBW0.out.trans (HA2.out.near.below.mono HBW0.out.size)
      have HVA : Hid (∀ b, (Value.slice na nl ncapa).ownBlock = some b → w.heap.size ≤ b) := fun b hb => Nat.le_trans HBW0.out.size (HA2.out.near.vlo b hb)
      have HVQ : Hid ((Value.slice na nl ncapa).ownBlock ≠ some q) := fun e => by have := HVA.out q e; omega
      have HVL7 : Hid (∀ b, (Value.slice na nl ncapa).ownBlock = some b → ¬ LFoot vs L b) := fun b hb x => by have := HVA.out b hb; have := HLL.out.foot_lt x; omega
      go_wp2_with fail
      refine (sameReport_yes r _ _ w6 (by rw [HNL.out]; exact hrowA.out) (by rw [HNL.out]; exact hrowB.out)).mono ?_
      rintro e7 w7 ⟨rfl, hb7⟩
      have HA7 := hide2 (HA2.out.blk.below hb7 hla)
      have HW7 := hide2 (HW2.out.below hb7)
      have HRA7 := hide2 (row_below hrowA.out hb7 fun _ => row_lt hrowA.out)
      have HB7 : Hid (Below w.heap.size w w7) := HBW6.out.trans (hb7.mono HBW6.out.size)
      have HL7 := hide2 (HLL.out.below HB7.out)
      clear hb7 a0 b0 a1 b1 a2 b2 a3 b3 a4 b4 a5 b5 a6 b6 a7 b7 a8 b8 a9 b9
      have a9 := HA7.out.cell (j := 9) rfl
      have hla7 := HA7.out.lt
      go_wp2_with fail
      refine (own_any q _ _ _ vs (.slice na nl ncapa) L nl _ w7 HW7.out.blk HL7.out HVSQ.out.1 HVSQ.out.2 HROOM.out HRA7.out HVQ.out HVL7.out).mono ?_
      rintro e8 w8 ⟨vs', f, rfl, hq8, hL8, hk8, hn8, hf8⟩
      have HEND := hide2 (EIn.owned HW.out HS.out HBD.out.1.1 HBD.out.1.2 HBD.out.2.1 HFF.out.1 HLL.out HBD.out.2.2 HFF.out.2.1 HFF.out.2.2 ((Kept.of_below HB7.out _).trans' hk8 (fun b hb e => by
        rcases e with e | e | e
        · exact .inl e
        · exact absurd (HVA.out b e) (by omega)
        · exact .inr e)) hq8 hL8 (fun g hg => (hn8 g hg).imp id fun x => Nat.le_trans HB7.out.size x) (fun b hb => HVA.out b (hf8 b hb)))
      clear hq8 hL8 hk8 hn8 hf8 a9
      go_wp2
      go_ret
      obtain ⟨F', hE, hK, hN⟩ := HEND.out
      exact ⟨F', rfl, hE, hK, hN⟩
end Go.Proofs.Ytjikemhmnkckcaa
