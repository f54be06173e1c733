import Derived.Test.YtjikemhmnkckcaaJ22
import Derived.Test.YtjikemhmnkckcaaJ12
import Derived.Test.YtjikemhmnkckcaaJ17
namespace Go.Proofs.Ytjikemhmnkckcaa
open Go.RowKit

/-- a script in memory: element i's number j -/
structure PlayRow (w : World) (a : Option Addr) (n c : Nat) (v : Nat → Nat → Int) : Prop where
  len : n ≤ c
  cap : c ≤ maxLen
  cells : 0 < n → ∃ g off, a = some ⟨g, off, none⟩ ∧ g < w.heap.size ∧ ∀ i, i < n → ∀ j, j < 9 → w.cell? ⟨g, off + i * 9 + j, none⟩ = some (.int .i64 (v i j))
  bd : ∀ i, i < n → ∀ j, j < 9 → -9223372036854775808 ≤ v i j ∧ v i j ≤ 9223372036854775807
theorem PlayRow.below {w w' : World} {a : Option Addr} {len cap : Nat} {v : Nat → Nat → Int} (h : PlayRow w a len cap v) (hb : Below w.heap.size w w') : PlayRow w' a len cap v :=
  ⟨h.len, h.cap, fun h0 => by
    obtain ⟨g, off, ha, hg, hc⟩ := h.cells h0
    exact ⟨g, off, ha, Nat.lt_of_lt_of_le hg hb.size, fun i hi j hj => (hb.cell (p := ⟨g, off + i * 9 + j, none⟩) hg).trans (hc i hi j hj)⟩, h.bd⟩

set_option maxRecDepth 100000 in
set_option maxHeartbeats 800000 in
theorem plays_no (st rest : Int) (a : Option Addr) (cap : Nat) (cls : List (Int × Int)) (vs vk : Value) (w : World) (h : CRow w a cap cls) (hreach : cls.length * 16 ≤ 140737488351232) (hv : Cf.validB st rest cls = false) :
    Calls Try.prog 21 #[.agg #[.int .i64 st, .int .i64 rest, .slice a cls.length cap], vs, vk, .bool false] w fun e w' => e = .returned (.bool true) ∧ Below w.heap.size w w' := by
  have HC := hide2 h
  have HV := hide2 hv
  clear h hv
  go_enter Try.func21, Try.ntmps21
  go_wp2_with (go_at_call 15; refine (begin_no st rest a cap cls _ (HC.out.below ((Below.refl _ _).alloc (Nat.le_refl _) _)) hreach HV.out).mono ?_; rintro e w1 ⟨rfl, hb1⟩)
  go_ret
  exact ⟨rfl, ((Below.refl _ _).alloc (Nat.le_refl _) _).trans (hb1.mono (by simp))⟩

/-- what is known of two script's worlds between the steps -/
structure Two (w wr : World) (q1 q2 n : Nat) : Prop where
  two : ∃ F1 F2, WIn wr q1 n F1 ∧ WIn wr q2 n F2 ∧ (∀ b, F1 b → ¬ F2 b) ∧ (∀ b, F1 b → w.heap.size ≤ b) ∧ (∀ b, F2 b → w.heap.size ≤ b)
  bel : Below w.heap.size w wr

theorem Two.one {w wr w' : World} {q1 q2 n : Nat} {F1 F2 F' : Nat → Prop} (h2 : WIn wr q2 n F2) (hd : ∀ b, F1 b → ¬ F2 b) (l1 : ∀ b, F1 b → w.heap.size ≤ b) (l2 : ∀ b, F2 b → w.heap.size ≤ b) (hb : Below w.heap.size w wr)
    (g1 : WIn w' q1 (n + 1) F') (gk : Kept wr w' F1) (gn : ∀ b, F' b → F1 b ∨ wr.heap.size ≤ b) : Two w w' q1 q2 (n + 1) := by
  have hs := hb.size
  refine ⟨⟨F', F2, g1, (h2.kept fun b hx => gk.block b (h2.lt hx) (fun x => hd b x hx)).more (by omega), ?_, ?_, l2⟩, hb.trans (gk.to_below hs l1)⟩
  · intro b x y
    rcases gn b x with x | x
    · exact hd b x y
    · have := h2.lt y; omega
  · intro b x
    rcases gn b x with x | x
    · exact l1 b x
    · omega
theorem Two.other {w wr w' : World} {q1 q2 n : Nat} {F1 F2 F' : Nat → Prop} (h1 : WIn wr q1 n F1) (hd : ∀ b, F1 b → ¬ F2 b) (l1 : ∀ b, F1 b → w.heap.size ≤ b) (l2 : ∀ b, F2 b → w.heap.size ≤ b) (hb : Below w.heap.size w wr)
    (g1 : WIn w' q2 (n + 1) F') (gk : Kept wr w' F2) (gn : ∀ b, F' b → F2 b ∨ wr.heap.size ≤ b) : Two w w' q1 q2 (n + 1) := by
  have hs := hb.size
  refine ⟨⟨F1, F', (h1.kept fun b hx => gk.block b (h1.lt hx) (fun x => hd b hx x)).more (by omega), g1, ?_, l1, ?_⟩, hb.trans (gk.to_below hs l2)⟩
  · intro b x y
    rcases gn b y with y | y
    · exact hd b x y
    · have := h1.lt x; omega
  · intro b x
    rcases gn b x with x | x
    · exact l2 b x
    · omega
theorem Two.below {w wr w' : World} {q1 q2 n : Nat} (h : Two w wr q1 q2 n) (hb : Below wr.heap.size wr w') : Two w w' q1 q2 n := by
  obtain ⟨⟨F1, F2, h1, h2, hd, l1, l2⟩, hbel⟩ := h
  exact ⟨⟨F1, F2, h1.below hb, h2.below hb, hd, l1, l2⟩, hbel.trans (hb.mono hbel.size)⟩
theorem Two.more {w wr : World} {q1 q2 n : Nat} (h : Two w wr q1 q2 n) : Two w wr q1 q2 (n + 1) := by
  obtain ⟨⟨F1, F2, h1, h2, hd, l1, l2⟩, hbel⟩ := h
  exact ⟨⟨F1, F2, h1.more (by omega), h2.more (by omega), hd, l1, l2⟩, hbel⟩

set_option maxRecDepth 100000 in
set_option maxHeartbeats 1600000 in
theorem plays_yes (st rest : Int) (a : Option Addr) (cap : Nat) (cls : List (Int × Int)) (sa : Option Addr) (slen scap : Nat) (v : Nat → Nat → Int) (kb : Nat) (w : World) (h : CRow w a cap cls) (hreach : cls.length * 16 ≤ 140737488351232) (hv : Cf.Valid st rest cls)
    (hs : PlayRow w sa slen scap v) (hsr : slen * 72 ≤ 140737488351232) (hk : ∀ m, m < 3 → w.cell? ⟨kb, m, none⟩ = some (.int .i64 (kindAt m))) :
    Calls Try.prog 21 #[.agg #[.int .i64 st, .int .i64 rest, .slice a cls.length cap], .slice sa slen scap, .slice (some ⟨kb, 0, none⟩) 3 3, .bool false] w fun e w' => e = .returned (.bool true) ∧ Below w.heap.size w w' := by
  have HC := hide2 h
  have HV := hide2 hv
  have HS := hide2 hs
  have HK := hide2 hk
  have hmax := hs.cap
  have hcap := hs.len
  unfold maxLen at hmax
  have hkb : kb < w.heap.size := World.block_lt_of_cell? w _ (hk 0 (by omega))
  clear h hv hs hk
  go_enter Try.func21, Try.ntmps21
  go_wp2_with fail
  refine (begin_yes st rest a cap cls _ (HC.out.below ((Below.refl _ _).alloc (Nat.le_refl _) _)) hreach HV.out).mono ?_
  rintro e w1 ⟨q1, ph1, gc1, bb1, G1, pr1, vc1, rfl, hW1, hb1, hf1⟩
  have hw1 : Below w.heap.size w w1 := ((Below.refl _ _).alloc (Nat.le_refl _) _).trans (hb1.mono (by simp))
  have x0 := (hb1.cell (p := ⟨w.heap.size, 0, none⟩) (by simp)).trans (World.cell?_alloc_new _ _ _ _)
  have x1 := (hb1.cell (p := ⟨w.heap.size, 1, none⟩) (by simp)).trans (World.cell?_alloc_new _ _ _ _)
  have x2 := (hb1.cell (p := ⟨w.heap.size, 2, none⟩) (by simp)).trans (World.cell?_alloc_new _ _ _ _)
  have HW1 := hide2 hW1
  have HF1 : Hid (∀ b, WFoot q1 ph1 gc1 bb1 G1 pr1 vc1 (.slice none 0 0) (.slice none 0 0) (.slice none 0 0) b → w.heap.size ≤ b) := fun b hb => by have := hf1 b hb; simp at this; omega
  clear hW1 hf1 hb1
  go_wp2_with fail
  refine (begin_yes st rest a cap cls _ (HC.out.below hw1) hreach HV.out).mono ?_
  rintro e w2 ⟨q2, ph2, gc2, bb2, G2, pr2, vc2, rfl, hW2, hb2, hf2⟩
  have hw2 : Below w.heap.size w w2 := hw1.trans (hb2.mono hw1.size)
  have HT : Hid (Two w w2 q1 q2 0) := ⟨⟨_, _, ⟨ph1, gc1, bb1, G1, pr1, vc1, _, _, _, _, _, HW1.out.below hb2, Nat.le_refl _, Nat.le_refl _, fun b => Iff.rfl⟩, ⟨ph2, gc2, bb2, G2, pr2, vc2, _, _, _, _, _, hW2, Nat.le_refl _, Nat.le_refl _, fun b => Iff.rfl⟩, fun b x y => by have := HW1.out.foot_lt x; have := hf2 b y; omega, HF1.out, fun b y => by have := hf2 b y; have := hw1.size; omega⟩, hw2⟩
  clear hW2 hf2 hb2 x0 x1 x2
  go_wp2
  have HT0 := HT
  clear HT HW1 HF1 hw1 hw2
  go_loopw [12] (fun i wr => ∃ n : Nat, n ≤ slen ∧ i = .int .i64 (n : Int) ∧ Two w wr q1 q2 n) (fun i _ => ((slen : Int) - intOf i).toNat)
  case atStart => exact ⟨0, by omega, rfl, HT0.out⟩
  case round =>
    obtain ⟨n, hn, rfl, hT⟩ := hrel
    have HT := hide2 hT
    clear hT
    have HKr : Hid (∀ m, m < 3 → wr.cell? ⟨kb, m, none⟩ = some (.int .i64 (kindAt m))) := fun m hm => (HT.out.bel.cell (p := ⟨kb, m, none⟩) hkb).trans (HK.out m hm)
    by_cases hlt : n < slen
    · have hl : (n : Int) < (slen : Int) := by omega
      have h0 : (0 : Int) ≤ (n : Int) := by omega
      obtain ⟨g, off, hsa, hgl, hcell⟩ := HS.out.cells (by omega)
      subst hsa
      have e0 : wr.cell? ⟨g, off + n * 9, none⟩ = some (.int .i64 (v n 0)) := (HT.out.bel.cell (p := ⟨g, off + n * 9, none⟩) hgl).trans (hcell n hlt 0 (by omega))
      have e1 := (HT.out.bel.cell (p := ⟨g, off + n * 9 + 1, none⟩) hgl).trans (hcell n hlt 1 (by omega))
      have e2 := (HT.out.bel.cell (p := ⟨g, off + n * 9 + 2, none⟩) hgl).trans (hcell n hlt 2 (by omega))
      have e3 := (HT.out.bel.cell (p := ⟨g, off + n * 9 + 3, none⟩) hgl).trans (hcell n hlt 3 (by omega))
      have e4 := (HT.out.bel.cell (p := ⟨g, off + n * 9 + 4, none⟩) hgl).trans (hcell n hlt 4 (by omega))
      have e5 := (HT.out.bel.cell (p := ⟨g, off + n * 9 + 5, none⟩) hgl).trans (hcell n hlt 5 (by omega))
      have e6 := (HT.out.bel.cell (p := ⟨g, off + n * 9 + 6, none⟩) hgl).trans (hcell n hlt 6 (by omega))
      have e7 := (HT.out.bel.cell (p := ⟨g, off + n * 9 + 7, none⟩) hgl).trans (hcell n hlt 7 (by omega))
      have e8 := (HT.out.bel.cell (p := ⟨g, off + n * 9 + 8, none⟩) hgl).trans (hcell n hlt 8 (by omega))
      have HB2 := hide2 (HS.out.bd n hlt 2 (by omega))
      have HB5 := hide2 (HS.out.bd n hlt 5 (by omega))
      generalize v n 0 = o0 at *
      generalize v n 1 = o1 at *
      generalize v n 2 = o2 at *
      generalize v n 3 = o3 at *
      generalize v n 4 = o4 at *
      generalize v n 5 = o5 at *
      generalize v n 6 = o6 at *
      generalize v n 7 = o7 at *
      generalize v n 8 = o8 at *
      clear hcell
      go_wp2_with fail
      refine (in_any o0 kb wr HKr.out).mono ?_
      rintro e w3 ⟨rfl, hb3⟩
      cases hik : isKind o0
      · have HT3 := hide2 (HT.out.below hb3)
        go_wp2
        go_roundw
        case rel => exact ⟨n + 1, by omega, rfl, HT3.out.more⟩
        case measure => simp [intOf]; omega
      · have hgr : g < wr.heap.size := Nat.lt_of_lt_of_le hgl HT.out.bel.size
        have f0 := (hb3.cell (p := ⟨g, off + n * 9, none⟩) hgr).trans e0
        have f1 := (hb3.cell (p := ⟨g, off + n * 9 + 1, none⟩) hgr).trans e1
        have f2 := (hb3.cell (p := ⟨g, off + n * 9 + 2, none⟩) hgr).trans e2
        have f3 := (hb3.cell (p := ⟨g, off + n * 9 + 3, none⟩) hgr).trans e3
        have f4 := (hb3.cell (p := ⟨g, off + n * 9 + 4, none⟩) hgr).trans e4
        have f5 := (hb3.cell (p := ⟨g, off + n * 9 + 5, none⟩) hgr).trans e5
        have f6 := (hb3.cell (p := ⟨g, off + n * 9 + 6, none⟩) hgr).trans e6
        have f7 := (hb3.cell (p := ⟨g, off + n * 9 + 7, none⟩) hgr).trans e7
        have f8 := (hb3.cell (p := ⟨g, off + n * 9 + 8, none⟩) hgr).trans e8
        have HT3 := hide2 (HT.out.below hb3)
        have HKI := hide2 (isKind_of hik)
        clear e0 e1 e2 e3 e4 e5 e6 e7 e8 hik
        obtain ⟨F1, F2, I1, I2, hd, l1, l2⟩ := HT3.out.two
        have HI1 := hide2 I1
        have HI2 := hide2 I2
        have HD := hide2 hd
        have HL1 := hide2 l1
        have HL2 := hide2 l2
        clear I1 I2 hd l1 l2
        go_wp2_with fail
        · refine (step_any q1 n F1 o0 o1 o2 o3 o4 o5 o6 o7 o8 w3 HI1.out (by omega) HB2.out.2 HB5.out.1 HB5.out.2 HKI.out).mono ?_
          rintro e w4 ⟨F', rfl, g1, gk, gn⟩
          have HT4 : Hid (Two w w4 q1 q2 (n + 1)) := Two.one HI2.out HD.out HL1.out HL2.out HT3.out.bel g1 gk gn
          clear g1 gk gn f0 f1 f2 f3 f4 f5 f6 f7 f8
          obtain ⟨E1, E2, J1, J2, _⟩ := HT4.out.two
          have HJ1 := hide2 J1
          have HJ2 := hide2 J2
          clear J1 J2
          go_wp2_with fail
          refine (looks_any q1 (n + 1) E1 w4 HJ1.out).mono ?_
          rintro e w5 ⟨rfl, rfl⟩
          go_wp2_with fail
          refine (looks_any q2 (n + 1) E2 w4 HJ2.out).mono ?_
          rintro e w5 ⟨rfl, rfl⟩
          go_wp2
          go_roundw
          case rel => exact ⟨n + 1, by omega, rfl, HT4.out⟩
          case measure => simp [intOf]; omega
        · refine (step_any q2 n F2 o0 o1 o2 o3 o4 o5 o6 o7 o8 w3 HI2.out (by omega) HB2.out.2 HB5.out.1 HB5.out.2 HKI.out).mono ?_
          rintro e w4 ⟨F', rfl, g1, gk, gn⟩
          have HT4 : Hid (Two w w4 q1 q2 (n + 1)) := Two.other HI1.out HD.out HL1.out HL2.out HT3.out.bel g1 gk gn
          clear g1 gk gn f0 f1 f2 f3 f4 f5 f6 f7 f8
          obtain ⟨E1, E2, J1, J2, _⟩ := HT4.out.two
          have HJ1 := hide2 J1
          have HJ2 := hide2 J2
          clear J1 J2
          go_wp2_with fail
          refine (looks_any q1 (n + 1) E1 w4 HJ1.out).mono ?_
          rintro e w5 ⟨rfl, rfl⟩
          go_wp2_with fail
          refine (looks_any q2 (n + 1) E2 w4 HJ2.out).mono ?_
          rintro e w5 ⟨rfl, rfl⟩
          go_wp2
          go_roundw
          case rel => exact ⟨n + 1, by omega, rfl, HT4.out⟩
          case measure => simp [intOf]; omega
    · have hl : ¬ (n : Int) < (slen : Int) := by omega
      obtain ⟨F1, F2, I1, I2, _⟩ := HT.out.two
      have HI1 := hide2 I1
      have HI2 := hide2 I2
      have HB := hide2 HT.out.bel
      clear I1 I2
      go_wp2_with fail
      refine (ends_any q1 n F1 wr HI1.out).mono ?_
      rintro e w3 ⟨rfl, hb3⟩
      go_wp2_with fail
      refine (ends_any q2 n F2 w3 (HI2.out.below hb3)).mono ?_
      rintro e w4 ⟨rfl, hb4⟩
      go_wp2
      go_ret
      exact ⟨rfl, (HB.out.trans (hb3.mono HB.out.size)).trans (hb4.mono (Nat.le_trans HB.out.size hb3.size))⟩
end Go.Proofs.Ytjikemhmnkckcaa
namespace Go.Proofs.Ytjikemhmnkckcaa
open Go.RowKit

theorem plays_any (st rest : Int) (a : Option Addr) (cap : Nat) (cls : List (Int × Int)) (sa : Option Addr) (slen scap : Nat) (v : Nat → Nat → Int) (kb : Nat) (w : World) (h : CRow w a cap cls) (hreach : cls.length * 16 ≤ 140737488351232)
    (hs : PlayRow w sa slen scap v) (hsr : slen * 72 ≤ 140737488351232) (hk : ∀ m, m < 3 → w.cell? ⟨kb, m, none⟩ = some (.int .i64 (kindAt m))) :
    Calls Try.prog 21 #[.agg #[.int .i64 st, .int .i64 rest, .slice a cls.length cap], .slice sa slen scap, .slice (some ⟨kb, 0, none⟩) 3 3, .bool false] w fun e w' => e = .returned (.bool true) ∧ Below w.heap.size w w' := by
  cases hv : Cf.validB st rest cls
  · exact plays_no st rest a cap cls _ _ w h hreach hv
  · exact plays_yes st rest a cap cls sa slen scap v kb w h hreach (Cf.valid_of hv) hs hsr hk

set_option maxRecDepth 100000 in
set_option maxHeartbeats 800000 in
theorem mallocs_any (st rest : Int) (a : Option Addr) (cap : Nat) (cls : List (Int × Int)) (sa : Option Addr) (slen scap : Nat) (v : Nat → Nat → Int) (w : World) (h : CRow w a cap cls) (hreach : cls.length * 16 ≤ 140737488351232)
    (hs : PlayRow w sa slen scap v) (hsr : slen * 72 ≤ 140737488351232) :
    Calls Try.prog 5 #[.agg #[.int .i64 st, .int .i64 rest, .slice a cls.length cap], .slice sa slen scap] w fun e w' => e = .returned (.bool true) ∧ Below w.heap.size w w' := by
  have HC := hide2 h
  have HS := hide2 hs
  clear h hs
  go_enter Try.func5, Try.ntmps5
  go_wp2_with fail
  obtain ⟨wb, hwb⟩ : ∃ wb, wb = (w.alloc (.cells #[.int .i64 st, .int .i64 rest, .slice a cls.length cap] 24)).alloc (.cells #[.int .i64 1, .int .i64 2, .int .i64 10] 3) := ⟨_, rfl⟩
  rw [← hwb]
  have hb : Below w.heap.size w wb := by rw [hwb]; exact ((Below.refl _ _).alloc (Nat.le_refl _) _).alloc (by simp) _
  have HK : Hid (∀ m, m < 3 → wb.cell? ⟨w.heap.size + 1, m, none⟩ = some (.int .i64 (kindAt m))) := by
    have hB : Blk wb (w.heap.size + 1) 3 [.int .i64 1, .int .i64 2, .int .i64 10] := by
      rw [hwb]
      have := Blk.alloc (w.alloc (.cells #[.int .i64 st, .int .i64 rest, .slice a cls.length cap] 24)) 3 [.int .i64 1, .int .i64 2, .int .i64 10]
      rw [World.size_alloc] at this
      exact this
    intro m hm
    match m, hm with
    | 0, _ => exact hB.cell (j := 0) rfl
    | 1, _ => exact hB.cell (j := 1) rfl
    | 2, _ => exact hB.cell (j := 2) rfl
  clear hwb
  refine (plays_any st rest a cap cls sa slen scap v _ wb (HC.out.below hb) hreach (HS.out.below hb) hsr HK.out).mono ?_
  rintro e w1 ⟨rfl, hb1⟩
  go_wp2
  go_ret
  exact ⟨rfl, hb.trans (hb1.mono hb.size)⟩
end Go.Proofs.Ytjikemhmnkckcaa
/- The statement's own book: pick, begin, spot, class, whole. -/
namespace Go.Proofs.Ytjikemhmnkckcaa
open Go.RowKit

def kpick (c n : Int) : Int := (if c < 0 then -(c + 1) else c) % n
theorem kpick_bd (c n : Int) (hn : 0 < n) : 0 ≤ kpick c n ∧ kpick c n < n := by
  unfold kpick
  exact ⟨Int.emod_nonneg _ (by omega), Int.emod_lt_of_pos _ hn⟩

set_option maxRecDepth 100000 in
set_option maxHeartbeats 800000 in
theorem kpick_any (c n : Int) (w : World) (hn : 0 < n) (c0 : -9223372036854775808 ≤ c) (c1 : c ≤ 9223372036854775807) :
    Calls Try.prog 28 #[.int .i64 c, .int .i64 n] w fun e w' => e = .returned (.int .i64 (kpick c n)) ∧ w = w' := by
  by_cases h : c < 0
  · have HF : Hid (kpick c n = (-(c + 1)) % n) := by show _ = _; unfold kpick; rw [if_pos h]
    have hx : 0 ≤ -(c + 1) := by omega
    go_enter Try.func28, Try.ntmps28
    go_wp2
    go_ret
    exact ⟨ret_int (by rw [HF.out, ← Int.neg_tmod, Int.tmod_eq_emod_of_nonneg hx]), rfl⟩
  · have HF : Hid (kpick c n = c % n) := by show _ = _; unfold kpick; rw [if_neg h]
    have hx : 0 ≤ c := by omega
    go_enter Try.func28, Try.ntmps28
    go_wp2
    go_ret
    exact ⟨ret_int (by rw [HF.out]), rfl⟩

set_option maxRecDepth 100000 in
set_option maxHeartbeats 1600000 in
theorem kbegin_any (st rest : Int) (a : Option Addr) (cap : Nat) (cls : List (Int × Int)) (k s : Int) (w : World) (hv : Cf.Valid st rest cls) (h : CRow w a cap cls) (k0 : 0 ≤ k) (k1 : k < cls.length) (s0 : 0 ≤ s) (s1 : s ≤ 16) :
    Calls Try.prog 66 #[.agg #[.int .i64 st, .int .i64 rest, .slice a cls.length cap], .int .i64 k, .int .i64 s] w fun e w' => e = .returned (.int .i64 (Cf.begin_ st cls k.toNat s)) ∧ Below w.heap.size w w' := by
  obtain ⟨k, rfl⟩ := Int.eq_ofNat_of_zero_le k0
  rw [Int.toNat_natCast]
  obtain ⟨g, off, rfl, hgl, hcell⟩ := h.cells hv.n0
  have hlen := h.len
  have hcap := h.cap
  have b0 := hv.st0
  have b1 := hv.st1
  have n1 := hv.n1
  unfold maxLen at hcap
  have HV : Hid (Cf.Valid st rest cls) := hv
  have HC : Hid (∀ i, i < cls.length → w.cell? ⟨g, off + i * 2, none⟩ = some (.int .i64 (Cf.gr cls i)) ∧ w.cell? ⟨g, off + i * 2 + 1, none⟩ = some (.int .i64 (Cf.sl cls i))) := hcell
  clear hv h hcell
  go_enter Try.func66, Try.ntmps66
  go_wp2
  go_loopw [7, 8] (fun x i wr => ∃ m : Nat, m ≤ k ∧ i = .int .i64 (m : Int) ∧ x = .int .i64 (Cf.gran st cls m) ∧ Below w.heap.size w wr ∧ wr.cell? ⟨w.heap.size, 2, none⟩ = some (.slice (some ⟨g, off, none⟩) cls.length cap)) (fun _ i _ => k - (intOf i).toNat)
  case atStart => exact ⟨0, by omega, rfl, by simp [Cf.gran]; omega, (Below.refl _ _).alloc (Nat.le_refl _) _, by simp⟩
  case round =>
    obtain ⟨m, hm, rfl, rfl, hb, cc⟩ := hrel
    have gb := Cf.gran_bd HV.out m (by omega)
    by_cases hlt : m < k
    · obtain ⟨d0, d1⟩ := HC.out m (by omega)
      have d0' := (hb.cell (p := ⟨g, off + m * 2, none⟩) hgl).trans d0
      have d1' := (hb.cell (p := ⟨g, off + m * 2 + 1, none⟩) hgl).trans d1
      have pb := Cf.prod_bd (by have := HV.out.s0 m (by omega); omega) (HV.out.s1 m (by omega)) (by have := HV.out.g0 m (by omega); omega) (HV.out.g1 m (by omega))
      rw [Int.mul_comm] at pb
      have hg : Hid (Cf.gran st cls (m + 1) = Cf.gran st cls m + Cf.sl cls m * Cf.gr cls m + 1) := rfl
      generalize Cf.gr cls m = x at *
      generalize Cf.sl cls m = y at *
      clear d0 d1
      go_wp2
      go_quiet (fail)
      go_wp2
      go_roundw
      case rel => exact ⟨m + 1, by omega, by go_num, by rw [hg.out, Int.mul_comm y x], below_drewN hb _, cc⟩
      case measure => simp [intOf]; omega
    · obtain rfl : m = k := by omega
      obtain ⟨d0, d1⟩ := HC.out m (by omega)
      have d0' := (hb.cell (p := ⟨g, off + m * 2, none⟩) hgl).trans d0
      have pb := Cf.prod_bd s0 s1 (by have := HV.out.g0 m (by omega); omega) (HV.out.g1 m (by omega))
      have hbe : Hid (Cf.begin_ st cls m s = 16 * (Cf.gran st cls m + s * Cf.gr cls m)) := rfl
      generalize Cf.gr cls m = x at *
      clear d0 d1
      go_wp2
      go_ret
      exact ⟨ret_int (by rw [hbe.out]), hb⟩


set_option maxRecDepth 100000 in
set_option maxHeartbeats 1600000 in
theorem kspot_any (st rest : Int) (a : Option Addr) (cap : Nat) (cls : List (Int × Int)) (addr : Int) (w : World) (hv : Cf.Valid st rest cls) (h : CRow w a cap cls) (a0 : 0 ≤ addr) (a1 : addr ≤ 1000000000000000000) :
    Calls Try.prog 65 #[.agg #[.int .i64 st, .int .i64 rest, .slice a cls.length cap], .int .i64 addr] w fun e w' => e = .returned (.tuple #[.int .i64 (Cf.slot st cls addr).1, .int .i64 (Cf.slot st cls addr).2]) ∧ Below w.heap.size w w' := by
  have HH := hide2 h
  obtain ⟨g, off, rfl, hgl, hcell⟩ := h.cells hv.n0
  have hlen := h.len
  have hcap := h.cap
  have n1 := hv.n1
  unfold maxLen at hcap
  have HV := hide2 hv
  have HC : Hid (∀ i, i < cls.length → w.cell? ⟨g, off + i * 2, none⟩ = some (.int .i64 (Cf.gr cls i)) ∧ w.cell? ⟨g, off + i * 2 + 1, none⟩ = some (.int .i64 (Cf.sl cls i))) := hcell
  have HEQ : Hid (Cf.slot st cls addr = if (Cf.cslotFrom st cls addr cls.length 0).1 < 0 then (-1, -1) else Cf.cslotFrom st cls addr cls.length 0) := Cf.cslot_eq hv addr cls.length 0 (by omega)
  clear hv h hcell
  go_enter Try.func65, Try.ntmps65
  go_wp2
  go_loopw [6] (fun i wr => ∃ m f : Nat, m + f = cls.length ∧ i = .int .i64 (m : Int) ∧ Hid (Cf.slot st cls addr = if (Cf.cslotFrom st cls addr f m).1 < 0 then (-1, -1) else Cf.cslotFrom st cls addr f m) ∧ Below w.heap.size w wr ∧ CBox wr w.heap.size st rest (some ⟨g, off, none⟩) cls.length cap) (fun i _ => cls.length - (intOf i).toNat)
  case atStart => exact ⟨0, cls.length, by omega, rfl, HEQ.out, (Below.refl _ _).alloc (Nat.le_refl _) _, CBox.alloc _ _ _ _ _ _ _⟩
  case round =>
    obtain ⟨m, f, hm, rfl, hs, hb, cc⟩ := hrel
    have k0 := cc.c0
    have k1 := cc.c1
    have k2 := cc.c2
    have hlt0 := cc.lt
    have HB := hide2 hb
    have HCC := hide2 cc
    clear cc hb HEQ
    cases f with
    | zero =>
      have hm' : ¬ (m : Int) < cls.length := by omega
      clear hm
      go_wp2
      go_ret2
      exact ⟨by rw [hs.out]; rfl, HB.out⟩
    | succ f =>
      have hlt : m < cls.length := by omega
      have HM := hide2 hm
      obtain ⟨d0, d1⟩ := HC.out m hlt
      have d0' := (HB.out.cell (p := ⟨g, off + m * 2, none⟩) hgl).trans d0
      have d1' := (HB.out.cell (p := ⟨g, off + m * 2 + 1, none⟩) hgl).trans d1
      have s0 := HV.out.s0 m hlt
      have s1 := HV.out.s1 m hlt
      have g0 := HV.out.g0 m hlt
      have g1 := HV.out.g1 m hlt
      have gb := Cf.gran_bd HV.out m (by omega)
      have HBE : Hid (Cf.begin_ st cls m 0 = 16 * Cf.gran st cls m) := by show _ = _; unfold Cf.begin_; omega
      have hst : Hid (Cf.cslotFrom st cls addr (f + 1) m = if Cf.hasB st cls addr m then ((m : Int), (addr - 16 * Cf.gran st cls m) / (16 * Cf.gr cls m)) else Cf.cslotFrom st cls addr f (m + 1)) := rfl
      have hhas : Hid (Cf.hasB st cls addr m = (decide (16 * Cf.gran st cls m ≤ addr) && decide (addr < 16 * Cf.gran st cls m + (Cf.sl cls m) * (16 * Cf.gr cls m)))) := rfl
      have hpr := Cf.prod_bd (by omega) s1 (by omega) g1
      have hcm : Cf.sl cls m * (16 * Cf.gr cls m) = 16 * Cf.gr cls m * Cf.sl cls m := Int.mul_comm _ _
      have hcm2 : 16 * Cf.gr cls m * Cf.sl cls m = 16 * (Cf.sl cls m * Cf.gr cls m) := by rw [Int.mul_assoc, Int.mul_comm (Cf.gr cls m)]
      have hprod0 : 0 ≤ 16 * Cf.gr cls m * Cf.sl cls m := by omega
      have hprod1 : 16 * Cf.gr cls m * Cf.sl cls m ≤ 2048 := by omega
      rw [hcm] at hhas
      have HMI : (m : Int) < (cls.length : Int) := by omega
      have hw0 : w.heap.size ≤ wr.heap.size := HB.out.size
      clear hm d0 d1 hcm hcm2 hpr
      go_wp2_with fail
      refine (kbegin_any st rest _ cap cls m 0 wr HV.out (HH.out.below HB.out) (by omega) (by omega) (by omega) (by omega)).mono ?_
      rw [Int.toNat_natCast, HBE.out]
      rintro e1 w1 ⟨rfl, hb1⟩
      have q2 := (hb1.cell (p := ⟨w.heap.size, 2, none⟩) hlt0).trans k2
      have q0 := (hb1.cell (p := ⟨g, off + m * 2, none⟩) (Nat.lt_of_lt_of_le hgl hw0)).trans d0'
      have q1 := (hb1.cell (p := ⟨g, off + m * 2 + 1, none⟩) (Nat.lt_of_lt_of_le hgl hw0)).trans d1'
      have HB1 := hide2 (HB.out.trans (hb1.mono HB.out.size))
      have HC1 := hide2 (HCC.out.below hb1 HCC.out.lt)
      clear d0' d1' k0 k1 k2 hb1
      generalize Cf.gran st cls m = x at *
      generalize Cf.gr cls m = y at *
      generalize Cf.sl cls m = z at *
      by_cases hi : 16 * x ≤ addr ∧ addr < 16 * x + 16 * y * z
      · obtain ⟨i1, i2⟩ := hi
        have hd0 : 0 ≤ (addr - 16 * x) / (16 * y) := Int.ediv_nonneg (by omega) (by omega)
        have hfin : Hid (Cf.slot st cls addr = ((m : Int), (addr - 16 * x) / (16 * y))) := by
          show _ = _
          rw [hs.out, hst.out, if_pos (show Cf.hasB st cls addr m = true by rw [hhas.out]; simp [i1, i2]), if_neg (by simp)]
        have hy : 0 < 16 * y := by omega
        clear hs hst hhas
        go_wp2
        go_quiet (fail)
        go_wp2
        go_ret2
        exact ⟨by rw [hfin.out]; rfl, below_drewN HB1.out _⟩
      · have hfin : Hid (Cf.slot st cls addr = if (Cf.cslotFrom st cls addr f (m + 1)).1 < 0 then (-1, -1) else Cf.cslotFrom st cls addr f (m + 1)) := by
          show _ = _
          rw [hs.out, hst.out, if_neg (show ¬ Cf.hasB st cls addr m = true by rw [hhas.out]; simpa using hi)]
        clear hs hst hhas
        by_cases i1 : 16 * x ≤ addr
        · have i2 : 16 * x + 16 * y * z ≤ addr := by omega
          clear hi
          go_wp2
          go_roundw
          case rel => exact ⟨m + 1, f, by have := HM.out; omega, by go_num, hfin, HB1.out, HC1.out⟩
          case measure => simp [intOf]; omega
        · clear hi
          go_wp2
          go_roundw
          case rel => exact ⟨m + 1, f, by have := HM.out; omega, by go_num, hfin, HB1.out, HC1.out⟩
          case measure => simp [intOf]; omega

set_option maxRecDepth 100000 in
set_option maxHeartbeats 1600000 in
theorem kclass_any (st rest : Int) (a : Option Addr) (cap : Nat) (cls : List (Int × Int)) (size : Int) (w : World) (hv : Cf.Valid st rest cls) (h : CRow w a cap cls) :
    Calls Try.prog 64 #[.agg #[.int .i64 st, .int .i64 rest, .slice a cls.length cap], .int .i64 size] w fun e w' => e = .returned (.int .i64 (gcls cls size)) ∧ Below w.heap.size w w' := by
  obtain ⟨g, off, rfl, hgl, hcell⟩ := h.cells hv.n0
  have hlen := h.len
  have hcap := h.cap
  have n1 := hv.n1
  have n0 := hv.n0
  unfold maxLen at hcap
  have HV := hide2 hv
  have HC : Hid (∀ i, i < cls.length → w.cell? ⟨g, off + i * 2, none⟩ = some (.int .i64 (Cf.gr cls i)) ∧ w.cell? ⟨g, off + i * 2 + 1, none⟩ = some (.int .i64 (Cf.sl cls i))) := hcell
  clear hv h hcell
  by_cases h1 : size < 1
  · have hres : Hid (gcls cls size = -1) := if_pos (.inl h1)
    have hs0 : ¬ (0 : Int) < size := by omega
    go_enter Try.func64, Try.ntmps64
    go_wp2
    go_loopw [5] (fun i wr => i = .int .i64 0 ∧ Below w.heap.size w wr ∧ wr.cell? ⟨w.heap.size, 2, none⟩ = some (.slice (some ⟨g, off, none⟩) cls.length cap)) (fun _ _ => 0)
    case atStart => exact ⟨rfl, (Below.refl _ _).alloc (Nat.le_refl _) _, by simp⟩
    case round =>
      obtain ⟨rfl, hb, k2⟩ := hrel
      have hl0 : (0 : Int) < (cls.length : Int) := by omega
      go_wp2
      go_ret
      exact ⟨ret_int hres.out.symm, hb⟩
  · have hres : Hid (gcls cls size = if Ref.cls_ cls size = cls.length then -1 else (Ref.cls_ cls size : Int)) := by
      show _ = _
      simp [gcls, h1]
    have hs0 : (0 : Int) < size := by omega
    go_enter Try.func64, Try.ntmps64
    go_wp2
    go_loopw [5] (fun i wr => ∃ m f : Nat, m + f = cls.length ∧ i = .int .i64 (m : Int) ∧ Hid (Ref.cls_ cls size = Ref.classFrom cls size f m) ∧ Below w.heap.size w wr ∧ wr.cell? ⟨w.heap.size, 2, none⟩ = some (.slice (some ⟨g, off, none⟩) cls.length cap)) (fun i _ => cls.length - (intOf i).toNat)
    case atStart => exact ⟨0, cls.length, by omega, rfl, rfl, (Below.refl _ _).alloc (Nat.le_refl _) _, by simp⟩
    case round =>
      obtain ⟨m, f, hm, rfl, hc, hb, k2⟩ := hrel
      cases f with
      | zero =>
        have hm3 : ¬ (m : Int) < (cls.length : Int) := by omega
        have hfin : Hid (gcls cls size = -1) := by
          show _ = _
          rw [hres.out, if_pos (by rw [hc.out]; show m = _; omega)]
        clear hm
        go_wp2
        go_ret
        exact ⟨ret_int hfin.out.symm, hb⟩
      | succ f =>
        have hlt : m < cls.length := by omega
        obtain ⟨d0, d1⟩ := HC.out m hlt
        have d0' := (hb.cell (p := ⟨g, off + m * 2, none⟩) hgl).trans d0
        have g0 := HV.out.g0 m hlt
        have g1 := HV.out.g1 m hlt
        have HM := hide2 hm
        have hst : Hid (Ref.classFrom cls size (f + 1) m = if 16 * Cf.gr cls m < size then Ref.classFrom cls size f (m + 1) else m) := rfl
        have hltI : (m : Int) < (cls.length : Int) := by omega
        clear hm d0 d1
        by_cases hq : 16 * Cf.gr cls m < size
        · have hfin : Hid (Ref.cls_ cls size = Ref.classFrom cls size f (m + 1)) := by show _ = _; rw [hc.out, hst.out, if_pos hq]
          clear hst hc
          generalize Cf.gr cls m = x at *
          go_wp2
          go_roundw
          case rel => exact ⟨m + 1, f, by have := HM.out; omega, by go_num, hfin, hb, k2⟩
          case measure => simp [intOf]; omega
        · have hfin : Hid (gcls cls size = (m : Int)) := by
            show _ = _
            have e : Ref.cls_ cls size = m := by rw [hc.out, hst.out, if_neg hq]
            rw [hres.out, e, if_neg (by omega)]
          clear hst hc
          generalize Cf.gr cls m = x at *
          go_wp2
          go_ret
          exact ⟨ret_int hfin.out.symm, hb⟩

set_option maxHeartbeats 800000 in
theorem kwhole_any (size : Int) (w : World) (h0 : 1 ≤ size) (h1 : size ≤ 128) :
    Calls Try.prog 31 #[.int .i64 size] w fun e w' => e = .returned (.int .i64 (16 * Ref.gsz size)) ∧ w = w' := by
  have hg : Hid (16 * Ref.gsz size = (size + 16 - 1) / 16 * 16) := by show _ = _; unfold Ref.gsz; omega
  go_enter Try.func31, Try.ntmps31
  go_wp2
  go_ret
  exact ⟨ret_int (by rw [hg.out]), rfl⟩
end Go.Proofs.Ytjikemhmnkckcaa
