import Derived.Test.YtjikemhmnkckcaaJ52
import Derived.Test.YtjikemhmnkckcaaJ53
import Derived.Test.YtjikemhmnkckcaaJ25
/- Blame of a script. -/
namespace Go.Proofs.Ytjikemhmnkckcaa
open Go.RowKit

set_option maxRecDepth 100000 in
set_option maxHeartbeats 3200000 in
theorem te_blame (q n : Nat) (F : Nat → Prop) (o1 o2 o3 o4 o5 o6 o7 o8 : Int) (w : World) (h : EIn w q n F) (hn : n < 1048576) (h02 : o2 ≤ 9223372036854775807) :
    Calls Try.prog 51 #[.pointer (some ⟨q, 0, none⟩), .agg #[.int .i64 9, .int .i64 o1, .int .i64 o2, .int .i64 o3, .int .i64 o4, .int .i64 o5, .int .i64 o6, .int .i64 o7, .int .i64 o8]] w fun e w' => ∃ F', e = .returned (.bool true) ∧ EIn w' q (n + 1) F' ∧ Kept w w' F ∧ ∀ b, F' b → F b ∨ w.heap.size ≤ b := by
  obtain ⟨vs, L, F0, ⟨ph, gc, bb, G, pr, vc, vl, vm, R, vp, ps, hW, hS, h1, h2, h3, hF0⟩, hL, hl, hd, hF⟩ := h
  have HW := hide2 hW
  have HS := hide2 hS
  have HFF := hide2 (And.intro hF0 (And.intro hd hF))
  have HLL := hide2 hL
  have HBD := hide2 (And.intro (And.intro h1 h2) (And.intro h3 hl))
  have hq := hW.blk.lt
  have _HP := hide2 (ptrOf_bd ps o1 o2 h02)
  have HROOM : Hid ((L.length + 1) * 24 ≤ 140737488355328) := by show _ ≤ _; omega
  have HVSQ : Hid (vs.ownBlock ≠ some q ∧ ∀ i, i < L.length → (L.getD i undef).ownBlock ≠ some q) := ⟨fun e => hd q ((hF0 q).2 (.inl rfl)) (.inl e), fun i hi e => hd q ((hF0 q).2 (.inl rfl)) (.inr ⟨i, hi, e⟩)⟩
  clear hW hS hF0 hd hF hL h1 h2 h3 hl h02
  go_enter Try.func51, Try.ntmps51
  go_wp2_with fail
  obtain ⟨wa, hwa⟩ : ∃ wa, wa = w.alloc (.cells #[.int .i64 9, .int .i64 o1, .int .i64 o2, .int .i64 o3, .int .i64 o4, .int .i64 o5, .int .i64 o6, .int .i64 o7, .int .i64 o8] 98) := ⟨_, rfl⟩
  rw [← hwa]
  have hba : Below w.heap.size w wa := by rw [hwa]; exact (Below.refl _ _).alloc (Nat.le_refl _) _
  have hsa : wa.heap.size = w.heap.size + 1 := by rw [hwa, World.size_alloc]
  have HO : Hid (Blk wa w.heap.size 98 [.int .i64 9, .int .i64 o1, .int .i64 o2, .int .i64 o3, .int .i64 o4, .int .i64 o5, .int .i64 o6, .int .i64 o7, .int .i64 o8]) := by rw [hwa]; exact Blk.alloc _ _ _
  have HWa := hide2 (HW.out.below hba)
  clear hwa
  refine (pointer_any q _ _ vp _ ps o1 o2 wa HWa.out.blk HWa.out.ps).mono ?_
  rintro e0 w0 ⟨rfl, hb0⟩
  have HO0 := hide2 (HO.out.below hb0 HO.out.lt)
  have HW0 := hide2 (HWa.out.below hb0)
  have HBW0 : Hid (Below w.heap.size w w0) := hba.trans (hb0.mono hba.size)
  have hq0 : q < w0.heap.size := HW0.out.blk.lt
  have c0 := HW0.out.blk.cell (j := 0) rfl
  have c1 := HW0.out.blk.cell (j := 1) rfl
  have d0 := HO0.out.cell (j := 0) rfl
  have d5 := HO0.out.cell (j := 5) rfl
  have ho0 : w.heap.size < w0.heap.size := by have := hb0.size; omega
  obtain ⟨ob, hob⟩ : ∃ ob, w.heap.size = ob := ⟨_, rfl⟩
  rw [hob] at HO0 ho0 d0 d5 ⊢
  clear hba hsa hb0 HWa HO
  generalize ptrOf ps o1 o2 = pt at *
  obtain ⟨r, hr⟩ : ∃ r, gblame G R pt = r := ⟨_, rfl⟩
  have HGE := hide2 hr
  have HRE : Hid (rblame R pt = r) := by show _ = _; rw [← hr]; exact (blame_sim HS.out.sim pt).symm
  clear hr
  go_upto_region 28 with (fail)
  go_wp2_with fail
  refine (gblame_any ph gc bb G R pt w0 HW0.out.g HS.out.sim _HP.out).mono ?_
  rw [HGE.out]
  rintro e1 w1 ⟨v, rfl, hn⟩
  obtain ⟨na, ncapa, hva, -, -, -⟩ := row_open hn.row
  subst hva
  have HN := hide2 hn
  unfold rptV rptCells
  clear hn
  go_upto_region 29 with (fail)
  have HA := hide2 (RptAt.behind HN.out)
  obtain ⟨w5, hw5⟩ : ∃ w5, w5 = w1.alloc (.cells (rptCells r (.slice na r.near.length ncapa)).toArray 64) := ⟨_, rfl⟩
  have hw5' := hw5
  simp only [rptCells] at hw5'
  rw [← hw5']
  rw [← hw5] at HA
  obtain ⟨rba, hrba⟩ : ∃ rba, rba = w1.heap.size := ⟨_, rfl⟩
  rw [← hrba] at HA ⊢
  have HWC := hide2 (HW0.out.below HA.out.near.below)
  have c1c := (HA.out.near.below.cell (p := ⟨q, 1, none⟩) hq0).trans c1
  have hqc : q < w5.heap.size := Nat.lt_of_lt_of_le hq0 HA.out.near.below.size
  clear hw5 hw5' hrba HN c0 c1 d0 d5
  go_wp2_with fail
  refine (rblame_any pr vc vl vm R pt w5 HWC.out.r HS.out.sim.rok _HP.out).mono ?_
  rw [HRE.out]
  rintro e2 w2 ⟨v2, rfl, hn2⟩
  obtain ⟨nb, ncapb, hvb, -, -, -⟩ := row_open hn2.row
  subst hvb
  have HN2 := hide2 hn2
  unfold rptV rptCells
  clear hn2
  go_upto_region 30 with (fail)
  have HB := hide2 (RptAt.behind HN2.out)
  obtain ⟨w6, hw6⟩ : ∃ w6, w6 = w2.alloc (.cells (rptCells r (.slice nb r.near.length ncapb)).toArray 64) := ⟨_, rfl⟩
  have hw6' := hw6
  simp only [rptCells] at hw6'
  rw [← hw6']
  rw [← hw6] at HB
  obtain ⟨rbb, hrbb⟩ : ∃ rbb, rbb = w2.heap.size := ⟨_, rfl⟩
  rw [← hrbb] at HB ⊢
  have HA2 := hide2 (HA.out.later HB.out.near.below)
  have HW2 := hide2 (HWC.out.below HB.out.near.below)
  clear hw6 hw6' hrbb HN2 c1c HA HWC hqc
  obtain ⟨nl, hnl⟩ : ∃ nl, r.near.length = nl := ⟨_, rfl⟩
  have HNL := hide2 hnl
  rw [hnl] at HA2 HB
  clear hnl
  have a0 := HA2.out.blk.cell (j := 0) rfl
  have b0 := HB.out.blk.cell (j := 0) rfl
  have a1 := HA2.out.blk.cell (j := 1) rfl
  have b1 := HB.out.blk.cell (j := 1) rfl
  have a2 := HA2.out.blk.cell (j := 2) rfl
  have b2 := HB.out.blk.cell (j := 2) rfl
  have a3 := HA2.out.blk.cell (j := 3) rfl
  have b3 := HB.out.blk.cell (j := 3) rfl
  have a4 := HA2.out.blk.cell (j := 4) rfl
  have b4 := HB.out.blk.cell (j := 4) rfl
  have a5 := HA2.out.blk.cell (j := 5) rfl
  have b5 := HB.out.blk.cell (j := 5) rfl
  have a6 := HA2.out.blk.cell (j := 6) rfl
  have b6 := HB.out.blk.cell (j := 6) rfl
  have a7 := HA2.out.blk.cell (j := 7) rfl
  have b7 := HB.out.blk.cell (j := 7) rfl
  have a8 := HA2.out.blk.cell (j := 8) rfl
  have b8 := HB.out.blk.cell (j := 8) rfl
  have a9 := HA2.out.blk.cell (j := 9) rfl
  have b9 := HB.out.blk.cell (j := 9) rfl
  have hla := HA2.out.blk.lt
  have hlb := HB.out.blk.lt
  have hrowA : Hid (w6.ownsRow 0 117 3 (.slice na nl ncapa) nl (r.near.flatMap nearCells)) := by show World.ownsRow _ _ _ _ _ _ _; have := HA2.out.near.row; rw [HNL.out] at this; exact this
  have hrowB : Hid (w6.ownsRow 0 117 3 (.slice nb nl ncapb) nl (r.near.flatMap nearCells)) := by show World.ownsRow _ _ _ _ _ _ _; have := HB.out.near.row; rw [HNL.out] at this; exact this
  have HBW6 : Hid (Below w.heap.size w w6) := HBW0.out.trans (HA2.out.near.below.mono HBW0.out.size)
  have HVA : Hid (∀ b, (Value.slice na nl ncapa).ownBlock = some b → w.heap.size ≤ b) := fun b hb => Nat.le_trans HBW0.out.size (HA2.out.near.vlo b hb)
  have HVQ : Hid ((Value.slice na nl ncapa).ownBlock ≠ some q) := fun e => by have := HVA.out q e; omega
  have HVL7 : Hid (∀ b, (Value.slice na nl ncapa).ownBlock = some b → ¬ LFoot vs L b) := fun b hb x => by have := HVA.out b hb; have := HLL.out.foot_lt x; omega
  go_wp2_with fail
  refine (sameReport_yes r _ _ w6 (by rw [HNL.out]; exact hrowA.out) (by rw [HNL.out]; exact hrowB.out)).mono ?_
  rintro e7 w7 ⟨rfl, hb7⟩
  have HA7 := hide2 (HA2.out.blk.below hb7 hla)
  have HW7 := hide2 (HW2.out.below hb7)
  have HRA7 := hide2 (row_below hrowA.out hb7 fun _ => row_lt hrowA.out)
  have HB7 : Hid (Below w.heap.size w w7) := HBW6.out.trans (hb7.mono HBW6.out.size)
  have HL7 := hide2 (HLL.out.below HB7.out)
  clear hb7 a0 b0 a1 b1 a2 b2 a3 b3 a4 b4 a5 b5 a6 b6 a7 b7 a8 b8 a9 b9
  have a9 := HA7.out.cell (j := 9) rfl
  have hla7 := HA7.out.lt
  go_wp2_with fail
  refine (own_any q _ _ _ vs (.slice na nl ncapa) L nl _ w7 HW7.out.blk HL7.out HVSQ.out.1 HVSQ.out.2 HROOM.out HRA7.out HVQ.out HVL7.out).mono ?_
  rintro e8 w8 ⟨vs', f, rfl, hq8, hL8, hk8, hn8, hf8⟩
  have HEND := hide2 (EIn.owned HW.out HS.out HBD.out.1.1 HBD.out.1.2 HBD.out.2.1 HFF.out.1 HLL.out HBD.out.2.2 HFF.out.2.1 HFF.out.2.2 ((Kept.of_below HB7.out _).trans' hk8 (fun b hb e => by
    rcases e with e | e | e
    · exact .inl e
    · exact absurd (HVA.out b e) (by omega)
    · exact .inr e)) hq8 hL8 (fun g hg => (hn8 g hg).imp id fun x => Nat.le_trans HB7.out.size x) (fun b hb => HVA.out b (hf8 b hb)))
  clear hq8 hL8 hk8 hn8 hf8 a9
  go_wp2
  go_ret
  obtain ⟨F', hE, hK, hN⟩ := HEND.out
  exact ⟨F', rfl, hE, hK, hN⟩
end Go.Proofs.Ytjikemhmnkckcaa
/- Explains and Heaps: the scripts. -/
namespace Go.Proofs.Ytjikemhmnkckcaa
open Go.RowKit

theorem elook (q n : Nat) (F : Nat → Prop) (w : World) (h : EIn w q n F) :
    Calls Try.prog 52 #[.pointer (some ⟨q, 0, none⟩)] w fun e w' => e = .returned (.bool true) ∧ Below w.heap.size w w' := by
  obtain ⟨vs, L, F0, ⟨ph, gc, bb, G, pr, vc, vl, vm, R, vp, ps, hW, _, _, _, _, _⟩, hL, _, _, _⟩ := h
  exact elooks_any q _ _ _ vs L w hW.blk hL
theorem eends_yes (q n : Nat) (F : Nat → Prop) (w : World) (h : EIn w q n F) :
    Calls Try.prog 53 #[.pointer (some ⟨q, 0, none⟩), .bool true] w fun e w' => e = .returned (.bool true) ∧ Below w.heap.size w w' := by
  obtain ⟨vs, L, F0, hT, _, _, _, _⟩ := h
  exact tends_any q n F0 w hT
set_option maxRecDepth 100000 in
set_option maxHeartbeats 800000 in
theorem eends_no (q n : Nat) (F : Nat → Prop) (w : World) (h : EIn w q n F) :
    Calls Try.prog 53 #[.pointer (some ⟨q, 0, none⟩), .bool false] w fun e w' => e = .returned (.bool true) ∧ Below w.heap.size w w' := by
  obtain ⟨vs, L, F0, ⟨ph, gc, bb, G, pr, vc, vl, vm, R, vp, ps, hW, _, _, _, _, _⟩, _, _, _, _⟩ := h
  have HW := hide2 hW
  clear hW
  go_enter Try.func53, Try.ntmps53
  go_wp2_with (go_at_call 18; refine (tags_any q ph gc bb G pr vc vl vm R vp ps _ w HW.out).mono ?_; rintro e w1 ⟨rfl, hb1⟩)
  go_ret
  exact ⟨rfl, hb1⟩
theorem estart {w : World} {q ph : Nat} {gc : Value} {bb : Nat} {G : GSt} {pr : Nat} {vc : Value} {st rest : Int} {cls : List (Int × Int)} (hv : Cf.Valid st rest cls) (h : WRep w q ph gc bb G pr vc (.slice none 0 0) (.slice none 0 0) ⟨st, rest, cls, [], []⟩ (.slice none 0 0) [] (.slice none 0 0)) (hz : ∀ i, G.mem.getD i 0 = 0) :
    EIn w q 0 (WFoot q ph gc bb G pr vc (.slice none 0 0) (.slice none 0 0) (.slice none 0 0)) := by
  have hno : ∀ b, ¬ LFoot (.slice none 0 0) [] b := by
    rintro b (x | ⟨i, hi, _⟩)
    · cases x
    · simp at hi
  exact ⟨.slice none 0 0, [], _, TIn.start hv h hz, ⟨World.ownsRow_nil _ _ _ _, fun i hi => absurd hi (by simp), fun i hi => absurd hi (by simp)⟩, by simp, fun b _ => hno b, fun b => ⟨.inl, fun x => x.resolve_right (hno b)⟩⟩

def heapKinds : List Int := [1, 2, 3, 4, 5, 6, 7, 8, 9, 10]
def explainKinds : List Int := [1, 2, 3, 8, 9]
theorem estep (q n : Nat) (F : Nat → Prop) (o0 o1 o2 o3 o4 o5 o6 o7 o8 : Int) (w : World) (h : EIn w q n F) (hn : n < 1048576) (hk : hasKind heapKinds o0 = true) (hx : ∀ x ∈ [o0, o1, o2, o3, o4, o5, o6, o7, o8], -9223372036854775808 ≤ x ∧ x ≤ 9223372036854775807) :
    Calls Try.prog 51 #[.pointer (some ⟨q, 0, none⟩), .agg #[.int .i64 o0, .int .i64 o1, .int .i64 o2, .int .i64 o3, .int .i64 o4, .int .i64 o5, .int .i64 o6, .int .i64 o7, .int .i64 o8]] w fun e w' => ∃ F', e = .returned (.bool true) ∧ EIn w' q (n + 1) F' ∧ Kept w w' F ∧ ∀ b, F' b → F b ∨ w.heap.size ≤ b := by
  have h2 := hx o2 (by simp)
  have h4 := hx o4 (by simp)
  have h5 := hx o5 (by simp)
  have h6 := hx o6 (by simp)
  have hk' : (o0 = 1 ∨ o0 = 2 ∨ o0 = 3 ∨ o0 = 4) ∨ o0 = 5 ∨ o0 = 6 ∨ o0 = 7 ∨ o0 = 8 ∨ o0 = 9 ∨ o0 = 10 := by
    unfold hasKind heapKinds at hk
    simp at hk
    omega
  rcases hk' with ho | rfl | rfl | rfl | rfl | rfl | rfl
  · exact h.elder fun vs F0 hT => ts_block q n F0 o0 o1 o2 o3 o4 o5 o6 o7 o8 w hT hn h2.2 h4.2 h6.1 h6.2 ho
  · exact h.elder fun vs F0 hT => ts_load q n F0 o1 o2 o3 o4 o5 o6 o7 o8 w hT hn h2.2 h4.2 h6.1 h6.2
  · exact h.elder fun vs F0 hT => ts_store q n F0 o1 o2 o3 o4 o5 o6 o7 o8 w hT hn h2.2 h4.2 h6.1 h6.2
  · exact h.elder fun vs F0 hT => ts_move q n F0 o1 o2 o3 o4 o5 o6 o7 o8 w hT hn h2.2 h4.2 h6.1 h6.2
  · exact te_explain q n F o1 o2 o3 o4 o5 o6 o7 o8 w h hn h2.2
  · exact te_blame q n F o1 o2 o3 o4 o5 o6 o7 o8 w h hn h2.2
  · exact h.elder fun vs F0 hT => ts_tag q n F0 o1 o2 o3 o4 o5 o6 o7 o8 w hT h5.1 h5.2
theorem heaps_plays : Plays EIn heapKinds 1048576 true where
  lt := fun h hb => h.lt hb
  kept := fun h hk => h.kept hk
  more := fun h hm => h.more hm
  step := estep
  looks := elook
  ends := eends_yes
  start := fun hv h hz => estart hv h hz
theorem explains_plays : Plays EIn explainKinds 1048576 false where
  lt := fun h hb => h.lt hb
  kept := fun h hk => h.kept hk
  more := fun h hm => h.more hm
  step := fun q n F o0 o1 o2 o3 o4 o5 o6 o7 o8 w h hn hk hx => estep q n F o0 o1 o2 o3 o4 o5 o6 o7 o8 w h hn (by unfold hasKind explainKinds at hk; unfold hasKind heapKinds; simp at hk ⊢; omega) hx
  looks := elook
  ends := eends_no
  start := fun hv h hz => estart hv h hz

set_option maxRecDepth 100000 in
set_option maxHeartbeats 1600000 in
theorem explains_any (st rest : Int) (a : Option Addr) (cap : Nat) (cls : List (Int × Int)) (sa : Option Addr) (slen scap : Nat) (v : Nat → Nat → Int) (w : World) (h : CRow w a cap cls) (hreach : cls.length * 16 ≤ 140737488351232)
    (hs : SRow w sa slen scap v) (hsr : slen ≤ 1048576) :
    Calls Try.prog 12 #[.agg #[.int .i64 st, .int .i64 rest, .slice a cls.length cap], .slice sa slen scap] w fun e w' => e = .returned (.bool true) ∧ Below w.heap.size w w' := by
  have HC := hide2 h
  have HS := hide2 hs
  clear h hs
  go_enter Try.func12, Try.ntmps12
  go_wp2_with fail
  obtain ⟨wb, hwb⟩ : ∃ wb, wb = (w.alloc (.cells #[.int .i64 st, .int .i64 rest, .slice a cls.length cap] 24)).alloc (.cells #[.int .i64 1, .int .i64 2, .int .i64 3, .int .i64 8, .int .i64 9] 3) := ⟨_, rfl⟩
  rw [← hwb]
  have hb : Below w.heap.size w wb := by rw [hwb]; exact ((Below.refl _ _).alloc (Nat.le_refl _) _).alloc (by simp) _
  have hB : Blk wb (w.heap.size + 1) 3 [.int .i64 1, .int .i64 2, .int .i64 3, .int .i64 8, .int .i64 9] := by
    rw [hwb]
    have := Blk.alloc (w.alloc (.cells #[.int .i64 st, .int .i64 rest, .slice a cls.length cap] 24)) 3 [.int .i64 1, .int .i64 2, .int .i64 3, .int .i64 8, .int .i64 9]
    rw [World.size_alloc] at this
    exact this
  have HKB := hide2 hB.lt
  have HK : Hid (∀ m, m < explainKinds.length → wb.cell? ⟨w.heap.size + 1, m, none⟩ = some (.int .i64 (explainKinds.getD m 0))) := by
    intro m hm
    have hm8 : m < 5 := hm
    match m, hm8 with
    | 0, _ => exact hB.cell (j := 0) rfl
    | 1, _ => exact hB.cell (j := 1) rfl
    | 2, _ => exact hB.cell (j := 2) rfl
    | 3, _ => exact hB.cell (j := 3) rfl
    | 4, _ => exact hB.cell (j := 4) rfl
  clear hwb hB
  cases hv : Cf.validB st rest cls
  · have HV := hide2 hv
    clear hv
    refine (plays_no2 false st rest a cap cls _ _ wb (HC.out.below hb) hreach HV.out).mono ?_
    rintro e w1 ⟨rfl, hb1⟩
    go_wp2
    go_ret
    exact ⟨rfl, hb.trans (hb1.mono hb.size)⟩
  · have HV := hide2 (Cf.valid_of hv)
    clear hv
    refine (explains_plays.yes (by decide) st rest a cap cls sa slen scap v (w.heap.size + 1) wb (HC.out.below hb) hreach HV.out (HS.out.below hb) hsr HKB.out HK.out).mono ?_
    rintro e w1 ⟨rfl, hb1⟩
    go_wp2
    go_ret
    exact ⟨rfl, hb.trans (hb1.mono hb.size)⟩

set_option maxRecDepth 100000 in
set_option maxHeartbeats 1600000 in
theorem heaps_any (st rest : Int) (a : Option Addr) (cap : Nat) (cls : List (Int × Int)) (sa : Option Addr) (slen scap : Nat) (v : Nat → Nat → Int) (w : World) (h : CRow w a cap cls) (hreach : cls.length * 16 ≤ 140737488351232)
    (hs : SRow w sa slen scap v) (hsr : slen ≤ 1048576) :
    Calls Try.prog 13 #[.agg #[.int .i64 st, .int .i64 rest, .slice a cls.length cap], .slice sa slen scap] w fun e w' => e = .returned (.bool true) ∧ Below w.heap.size w w' := by
  have HC := hide2 h
  have HS := hide2 hs
  clear h hs
  go_enter Try.func13, Try.ntmps13
  go_wp2_with fail
  obtain ⟨wb, hwb⟩ : ∃ wb, wb = (w.alloc (.cells #[.int .i64 st, .int .i64 rest, .slice a cls.length cap] 24)).alloc (.cells #[.int .i64 1, .int .i64 2, .int .i64 3, .int .i64 4, .int .i64 5, .int .i64 6, .int .i64 7, .int .i64 8, .int .i64 9, .int .i64 10] 3) := ⟨_, rfl⟩
  rw [← hwb]
  have hb : Below w.heap.size w wb := by rw [hwb]; exact ((Below.refl _ _).alloc (Nat.le_refl _) _).alloc (by simp) _
  have hB : Blk wb (w.heap.size + 1) 3 [.int .i64 1, .int .i64 2, .int .i64 3, .int .i64 4, .int .i64 5, .int .i64 6, .int .i64 7, .int .i64 8, .int .i64 9, .int .i64 10] := by
    rw [hwb]
    have := Blk.alloc (w.alloc (.cells #[.int .i64 st, .int .i64 rest, .slice a cls.length cap] 24)) 3 [.int .i64 1, .int .i64 2, .int .i64 3, .int .i64 4, .int .i64 5, .int .i64 6, .int .i64 7, .int .i64 8, .int .i64 9, .int .i64 10]
    rw [World.size_alloc] at this
    exact this
  have HKB := hide2 hB.lt
  have HK : Hid (∀ m, m < heapKinds.length → wb.cell? ⟨w.heap.size + 1, m, none⟩ = some (.int .i64 (heapKinds.getD m 0))) := by
    intro m hm
    have hm8 : m < 10 := hm
    match m, hm8 with
    | 0, _ => exact hB.cell (j := 0) rfl
    | 1, _ => exact hB.cell (j := 1) rfl
    | 2, _ => exact hB.cell (j := 2) rfl
    | 3, _ => exact hB.cell (j := 3) rfl
    | 4, _ => exact hB.cell (j := 4) rfl
    | 5, _ => exact hB.cell (j := 5) rfl
    | 6, _ => exact hB.cell (j := 6) rfl
    | 7, _ => exact hB.cell (j := 7) rfl
    | 8, _ => exact hB.cell (j := 8) rfl
    | 9, _ => exact hB.cell (j := 9) rfl
  clear hwb hB
  cases hv : Cf.validB st rest cls
  · have HV := hide2 hv
    clear hv
    refine (plays_no2 true st rest a cap cls _ _ wb (HC.out.below hb) hreach HV.out).mono ?_
    rintro e w1 ⟨rfl, hb1⟩
    go_wp2
    go_ret
    exact ⟨rfl, hb.trans (hb1.mono hb.size)⟩
  · have HV := hide2 (Cf.valid_of hv)
    clear hv
    refine (heaps_plays.yes (by decide) st rest a cap cls sa slen scap v (w.heap.size + 1) wb (HC.out.below hb) hreach HV.out (HS.out.below hb) hsr HKB.out HK.out).mono ?_
    rintro e w1 ⟨rfl, hb1⟩
    go_wp2
    go_ret
    exact ⟨rfl, hb.trans (hb1.mono hb.size)⟩
end Go.Proofs.Ytjikemhmnkckcaa
