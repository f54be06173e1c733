import Derived.Test.YtjikemhmnkckcaaJ24
namespace Go.Proofs.Ytjikemhmnkckcaa
open Go.RowKit

/-- a script in memory: element i's number j -/
structure SRow (w : World) (a : Option Addr) (n c : Nat) (v : Nat → Nat → Int) : Prop where
  len : n ≤ c
  cap : c ≤ maxLen
  cells : 0 < n → ∃ g off, a = some ⟨g, off, none⟩ ∧ g < w.heap.size ∧ ∀ i, i < n → ∀ j, j < 9 → w.cell? ⟨g, off + i * 9 + j, none⟩ = some (.int .i64 (v i j))
  bd : ∀ i, i < n → ∀ j, j < 9 → -9223372036854775808 ≤ v i j ∧ v i j ≤ 9223372036854775807
theorem SRow.below {w w' : World} {a : Option Addr} {len cap : Nat} {v : Nat → Nat → Int} (h : SRow w a len cap v) (hb : Below w.heap.size w w') : SRow w' a len cap v :=
  ⟨h.len, h.cap, fun h0 => by
    obtain ⟨g, off, ha, hg, hc⟩ := h.cells h0
    exact ⟨g, off, ha, Nat.lt_of_lt_of_le hg hb.size, fun i hi j hj => (hb.cell (p := ⟨g, off + i * 9 + j, none⟩) hg).trans (hc i hi j hj)⟩, h.bd⟩

set_option maxRecDepth 100000 in
set_option maxHeartbeats 800000 in
theorem plays_no (st rest : Int) (a : Option Addr) (cap : Nat) (cls : List (Int × Int)) (vs vk : Value) (w : World) (h : CRow w a cap cls) (hreach : cls.length * 16 ≤ 140737488351232) (hv : Cf.validB st rest cls = false) :
    Calls Try.prog 21 #[.agg #[.int .i64 st, .int .i64 rest, .slice a cls.length cap], vs, vk, .bool false] w fun e w' => e = .returned (.bool true) ∧ Below w.heap.size w w' := by
  have HC := hide2 h
  have HV := hide2 hv
  clear h hv
  go_enter Try.func21, Try.ntmps21
  go_wp2_with (go_at_call 15; refine (begin_no st rest a cap cls _ (HC.out.below ((Below.refl _ _).alloc (Nat.le_refl _) _)) hreach HV.out).mono ?_; rintro e w1 ⟨rfl, hb1⟩)
  go_ret
  exact ⟨rfl, ((Below.refl _ _).alloc (Nat.le_refl _) _).trans (hb1.mono (by simp))⟩

/-- what is known of two script's worlds between the steps -/
structure Two (w wr : World) (q1 q2 n : Nat) : Prop where
  two : ∃ F1 F2, WIn wr q1 n F1 ∧ WIn wr q2 n F2 ∧ (∀ b, F1 b → ¬ F2 b) ∧ (∀ b, F1 b → w.heap.size ≤ b) ∧ (∀ b, F2 b → w.heap.size ≤ b)
  bel : Below w.heap.size w wr

theorem Two.one {w wr w' : World} {q1 q2 n : Nat} {F1 F2 F' : Nat → Prop} (h2 : WIn wr q2 n F2) (hd : ∀ b, F1 b → ¬ F2 b) (l1 : ∀ b, F1 b → w.heap.size ≤ b) (l2 : ∀ b, F2 b → w.heap.size ≤ b) (hb : Below w.heap.size w wr)
    (g1 : WIn w' q1 (n + 1) F') (gk : Kept wr w' F1) (gn : ∀ b, F' b → F1 b ∨ wr.heap.size ≤ b) : Two w w' q1 q2 (n + 1) := by
  have hs := hb.size
  refine ⟨⟨F', F2, g1, (h2.kept fun b hx => gk.block b (h2.lt hx) (fun x => hd b x hx)).more (by omega), ?_, ?_, l2⟩, hb.trans (gk.to_below hs l1)⟩
  · intro b x y
    rcases gn b x with x | x
    · exact hd b x y
    · have := h2.lt y; omega
  · intro b x
    rcases gn b x with x | x
    · exact l1 b x
    · omega
theorem Two.other {w wr w' : World} {q1 q2 n : Nat} {F1 F2 F' : Nat → Prop} (h1 : WIn wr q1 n F1) (hd : ∀ b, F1 b → ¬ F2 b) (l1 : ∀ b, F1 b → w.heap.size ≤ b) (l2 : ∀ b, F2 b → w.heap.size ≤ b) (hb : Below w.heap.size w wr)
    (g1 : WIn w' q2 (n + 1) F') (gk : Kept wr w' F2) (gn : ∀ b, F' b → F2 b ∨ wr.heap.size ≤ b) : Two w w' q1 q2 (n + 1) := by
  have hs := hb.size
  refine ⟨⟨F1, F', (h1.kept fun b hx => gk.block b (h1.lt hx) (fun x => hd b hx x)).more (by omega), g1, ?_, l1, ?_⟩, hb.trans (gk.to_below hs l2)⟩
  · intro b x y
    rcases gn b y with y | y
    · exact hd b x y
    · have := h1.lt x; omega
  · intro b x
    rcases gn b x with x | x
    · exact l2 b x
    · omega
theorem Two.below {w wr w' : World} {q1 q2 n : Nat} (h : Two w wr q1 q2 n) (hb : Below wr.heap.size wr w') : Two w w' q1 q2 n := by
  obtain ⟨⟨F1, F2, h1, h2, hd, l1, l2⟩, hbel⟩ := h
  exact ⟨⟨F1, F2, h1.below hb, h2.below hb, hd, l1, l2⟩, hbel.trans (hb.mono hbel.size)⟩
theorem Two.more {w wr : World} {q1 q2 n : Nat} (h : Two w wr q1 q2 n) : Two w wr q1 q2 (n + 1) := by
  obtain ⟨⟨F1, F2, h1, h2, hd, l1, l2⟩, hbel⟩ := h
  exact ⟨⟨F1, F2, h1.more (by omega), h2.more (by omega), hd, l1, l2⟩, hbel⟩

set_option maxRecDepth 100000 in
set_option maxHeartbeats 1600000 in
theorem plays_yes (st rest : Int) (a : Option Addr) (cap : Nat) (cls : List (Int × Int)) (sa : Option Addr) (slen scap : Nat) (v : Nat → Nat → Int) (kb : Nat) (w : World) (h : CRow w a cap cls) (hreach : cls.length * 16 ≤ 140737488351232) (hv : Cf.Valid st rest cls)
    (hs : SRow w sa slen scap v) (hsr : slen * 72 ≤ 140737488351232) (hk : ∀ m, m < 3 → w.cell? ⟨kb, m, none⟩ = some (.int .i64 (kindAt m))) :
    Calls Try.prog 21 #[.agg #[.int .i64 st, .int .i64 rest, .slice a cls.length cap], .slice sa slen scap, .slice (some ⟨kb, 0, none⟩) 3 3, .bool false] w fun e w' => e = .returned (.bool true) ∧ Below w.heap.size w w' := by
  have HC := hide2 h
  have HV := hide2 hv
  have HS := hide2 hs
  have HK := hide2 hk
  have hmax := hs.cap
  have hcap := hs.len
  unfold maxLen at hmax
  have hkb : kb < w.heap.size := World.block_lt_of_cell? w _ (hk 0 (by omega))
  clear h hv hs hk
  go_enter Try.func21, Try.ntmps21
  go_wp2_with fail
  refine (begin_yes st rest a cap cls _ (HC.out.below ((Below.refl _ _).alloc (Nat.le_refl _) _)) hreach HV.out).mono ?_
  rintro e w1 ⟨q1, ph1, gc1, bb1, G1, pr1, vc1, rfl, hW1, hb1, hf1⟩
  have hw1 : Below w.heap.size w w1 := ((Below.refl _ _).alloc (Nat.le_refl _) _).trans (hb1.mono (by simp))
  have x0 := (hb1.cell (p := ⟨w.heap.size, 0, none⟩) (by simp)).trans (World.cell?_alloc_new _ _ _ _)
  have x1 := (hb1.cell (p := ⟨w.heap.size, 1, none⟩) (by simp)).trans (World.cell?_alloc_new _ _ _ _)
  have x2 := (hb1.cell (p := ⟨w.heap.size, 2, none⟩) (by simp)).trans (World.cell?_alloc_new _ _ _ _)
  have HW1 := hide2 hW1
  have HF1 : Hid (∀ b, WFoot q1 ph1 gc1 bb1 G1 pr1 vc1 (.slice none 0 0) (.slice none 0 0) (.slice none 0 0) b → w.heap.size ≤ b) := fun b hb => by have := hf1 b hb; simp at this; omega
  clear hW1 hf1 hb1
  go_wp2_with fail
  refine (begin_yes st rest a cap cls _ (HC.out.below hw1) hreach HV.out).mono ?_
  rintro e w2 ⟨q2, ph2, gc2, bb2, G2, pr2, vc2, rfl, hW2, hb2, hf2⟩
  have hw2 : Below w.heap.size w w2 := hw1.trans (hb2.mono hw1.size)
  have HT : Hid (Two w w2 q1 q2 0) := ⟨⟨_, _, ⟨ph1, gc1, bb1, G1, pr1, vc1, _, _, _, _, _, HW1.out.below hb2, Nat.le_refl _, Nat.le_refl _, fun b => Iff.rfl⟩, ⟨ph2, gc2, bb2, G2, pr2, vc2, _, _, _, _, _, hW2, Nat.le_refl _, Nat.le_refl _, fun b => Iff.rfl⟩, fun b x y => by have := HW1.out.foot_lt x; have := hf2 b y; omega, HF1.out, fun b y => by have := hf2 b y; have := hw1.size; omega⟩, hw2⟩
  clear hW2 hf2 hb2 x0 x1 x2
  go_wp2
  have HT0 := HT
  clear HT HW1 HF1 hw1 hw2
  go_loopw [12] (fun i wr => ∃ n : Nat, n ≤ slen ∧ i = .int .i64 (n : Int) ∧ Two w wr q1 q2 n) (fun i _ => ((slen : Int) - intOf i).toNat)
  case atStart => exact ⟨0, by omega, rfl, HT0.out⟩
  case round =>
    obtain ⟨n, hn, rfl, hT⟩ := hrel
    have HT := hide2 hT
    clear hT
    have HKr : Hid (∀ m, m < 3 → wr.cell? ⟨kb, m, none⟩ = some (.int .i64 (kindAt m))) := fun m hm => (HT.out.bel.cell (p := ⟨kb, m, none⟩) hkb).trans (HK.out m hm)
    by_cases hlt : n < slen
    · have hl : (n : Int) < (slen : Int) := by omega
      have h0 : (0 : Int) ≤ (n : Int) := by omega
      obtain ⟨g, off, hsa, hgl, hcell⟩ := HS.out.cells (by omega)
      subst hsa
      have e0 : wr.cell? ⟨g, off + n * 9, none⟩ = some (.int .i64 (v n 0)) := (HT.out.bel.cell (p := ⟨g, off + n * 9, none⟩) hgl).trans (hcell n hlt 0 (by omega))
      have e1 := (HT.out.bel.cell (p := ⟨g, off + n * 9 + 1, none⟩) hgl).trans (hcell n hlt 1 (by omega))
      have e2 := (HT.out.bel.cell (p := ⟨g, off + n * 9 + 2, none⟩) hgl).trans (hcell n hlt 2 (by omega))
      have e3 := (HT.out.bel.cell (p := ⟨g, off + n * 9 + 3, none⟩) hgl).trans (hcell n hlt 3 (by omega))
      have e4 := (HT.out.bel.cell (p := ⟨g, off + n * 9 + 4, none⟩) hgl).trans (hcell n hlt 4 (by omega))
      have e5 := (HT.out.bel.cell (p := ⟨g, off + n * 9 + 5, none⟩) hgl).trans (hcell n hlt 5 (by omega))
      have e6 := (HT.out.bel.cell (p := ⟨g, off + n * 9 + 6, none⟩) hgl).trans (hcell n hlt 6 (by omega))
      have e7 := (HT.out.bel.cell (p := ⟨g, off + n * 9 + 7, none⟩) hgl).trans (hcell n hlt 7 (by omega))
      have e8 := (HT.out.bel.cell (p := ⟨g, off + n * 9 + 8, none⟩) hgl).trans (hcell n hlt 8 (by omega))
      have HB2 := hide2 (HS.out.bd n hlt 2 (by omega))
      have HB5 := hide2 (HS.out.bd n hlt 5 (by omega))
      generalize v n 0 = o0 at *
      generalize v n 1 = o1 at *
      generalize v n 2 = o2 at *
      generalize v n 3 = o3 at *
      generalize v n 4 = o4 at *
      generalize v n 5 = o5 at *
      generalize v n 6 = o6 at *
      generalize v n 7 = o7 at *
      generalize v n 8 = o8 at *
      clear hcell
      go_wp2_with fail
      refine (in_any o0 kb wr HKr.out).mono ?_
      rintro e w3 ⟨rfl, hb3⟩
      cases hik : isKind o0
      · have HT3 := hide2 (HT.out.below hb3)
        go_wp2
        go_roundw
        case rel => exact ⟨n + 1, by omega, rfl, HT3.out.more⟩
        case measure => simp [intOf]; omega
      · have hgr : g < wr.heap.size := Nat.lt_of_lt_of_le hgl HT.out.bel.size
        have f0 := (hb3.cell (p := ⟨g, off + n * 9, none⟩) hgr).trans e0
        have f1 := (hb3.cell (p := ⟨g, off + n * 9 + 1, none⟩) hgr).trans e1
        have f2 := (hb3.cell (p := ⟨g, off + n * 9 + 2, none⟩) hgr).trans e2
        have f3 := (hb3.cell (p := ⟨g, off + n * 9 + 3, none⟩) hgr).trans e3
        have f4 := (hb3.cell (p := ⟨g, off + n * 9 + 4, none⟩) hgr).trans e4
        have f5 := (hb3.cell (p := ⟨g, off + n * 9 + 5, none⟩) hgr).trans e5
        have f6 := (hb3.cell (p := ⟨g, off + n * 9 + 6, none⟩) hgr).trans e6
        have f7 := (hb3.cell (p := ⟨g, off + n * 9 + 7, none⟩) hgr).trans e7
        have f8 := (hb3.cell (p := ⟨g, off + n * 9 + 8, none⟩) hgr).trans e8
        have HT3 := hide2 (HT.out.below hb3)
        have HKI := hide2 (isKind_of hik)
        clear e0 e1 e2 e3 e4 e5 e6 e7 e8 hik
        obtain ⟨F1, F2, I1, I2, hd, l1, l2⟩ := HT3.out.two
        have HI1 := hide2 I1
        have HI2 := hide2 I2
        have HD := hide2 hd
        have HL1 := hide2 l1
        have HL2 := hide2 l2
        clear I1 I2 hd l1 l2
        go_wp2_with fail
        · refine (step_any q1 n F1 o0 o1 o2 o3 o4 o5 o6 o7 o8 w3 HI1.out (by omega) HB2.out.2 HB5.out.1 HB5.out.2 HKI.out).mono ?_
          rintro e w4 ⟨F', rfl, g1, gk, gn⟩
          have HT4 : Hid (Two w w4 q1 q2 (n + 1)) := Two.one HI2.out HD.out HL1.out HL2.out HT3.out.bel g1 gk gn
          clear g1 gk gn f0 f1 f2 f3 f4 f5 f6 f7 f8
          obtain ⟨E1, E2, J1, J2, _⟩ := HT4.out.two
          have HJ1 := hide2 J1
          have HJ2 := hide2 J2
          clear J1 J2
          go_wp2_with fail
          refine (looks_any q1 (n + 1) E1 w4 HJ1.out).mono ?_
          rintro e w5 ⟨rfl, rfl⟩
          go_wp2_with fail
          refine (looks_any q2 (n + 1) E2 w4 HJ2.out).mono ?_
          rintro e w5 ⟨rfl, rfl⟩
          go_wp2
          go_roundw
          case rel => exact ⟨n + 1, by omega, rfl, HT4.out⟩
          case measure => simp [intOf]; omega
        · refine (step_any q2 n F2 o0 o1 o2 o3 o4 o5 o6 o7 o8 w3 HI2.out (by omega) HB2.out.2 HB5.out.1 HB5.out.2 HKI.out).mono ?_
          rintro e w4 ⟨F', rfl, g1, gk, gn⟩
          have HT4 : Hid (Two w w4 q1 q2 (n + 1)) := Two.other HI1.out HD.out HL1.out HL2.out HT3.out.bel g1 gk gn
          clear g1 gk gn f0 f1 f2 f3 f4 f5 f6 f7 f8
          obtain ⟨E1, E2, J1, J2, _⟩ := HT4.out.two
          have HJ1 := hide2 J1
          have HJ2 := hide2 J2
          clear J1 J2
          go_wp2_with fail
          refine (looks_any q1 (n + 1) E1 w4 HJ1.out).mono ?_
          rintro e w5 ⟨rfl, rfl⟩
          go_wp2_with fail
          refine (looks_any q2 (n + 1) E2 w4 HJ2.out).mono ?_
          rintro e w5 ⟨rfl, rfl⟩
          go_wp2
          go_roundw
          case rel => exact ⟨n + 1, by omega, rfl, HT4.out⟩
          case measure => simp [intOf]; omega
    · have hl : ¬ (n : Int) < (slen : Int) := by omega
      obtain ⟨F1, F2, I1, I2, _⟩ := HT.out.two
      have HI1 := hide2 I1
      have HI2 := hide2 I2
      have HB := hide2 HT.out.bel
      clear I1 I2
      go_wp2_with fail
      refine (ends_any q1 n F1 wr HI1.out).mono ?_
      rintro e w3 ⟨rfl, hb3⟩
      go_wp2_with fail
      refine (ends_any q2 n F2 w3 (HI2.out.below hb3)).mono ?_
      rintro e w4 ⟨rfl, hb4⟩
      go_wp2
      go_ret
      exact ⟨rfl, (HB.out.trans (hb3.mono HB.out.size)).trans (hb4.mono (Nat.le_trans HB.out.size hb3.size))⟩
end Go.Proofs.Ytjikemhmnkckcaa
