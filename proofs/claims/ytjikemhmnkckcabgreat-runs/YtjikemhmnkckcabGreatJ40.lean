import Derived.Test.YtjikemhmnkckcabGreatJ39
import Derived.Test.YtjikemhmnkckcabGreatJ25
import Derived.Test.YtjikemhmnkckcabGreatJ3
import Derived.Test.YtjikemhmnkckcabGreatJ35
/- The program's machine: registers; what needs no heap. -/
namespace Go.Proofs.YtjikemhmnkckcabGreat
open Go.RowKit
attribute [local go_sem ↓] Go.wp_at_zero Go.wp_at_succ

def rg (r : List Int) (k : Nat) : Int := r.getD k 0
theorem m_reg {w : World} {mb : Nat} {ph vcode : Value} {r : List Int} {inp : ByteArray} {heard : Int} {vd : Value} {drawn : Int} {vo : Value} {pc next steps en ex : Int} {rep : List Value}
    (h : Blk w mb 81 (mCells ph vcode r inp heard vd drawn vo pc next steps en ex rep)) (hr : r.length = 8) (k : Nat) (hk : k < 8) : w.cell? ⟨mb, 2 + k, none⟩ = some (.int .i64 (rg r k)) := by
  refine h.cell ?_
  unfold mCells rg
  rw [List.append_assoc, List.append_assoc, List.getElem?_append_right (by simp), List.getElem?_append_left (by simp; omega)]
  simp only [List.length_cons, List.length_nil]
  rw [show 2 + k - (0 + 1 + 1) = k by omega, List.getElem?_map, List.getElem?_eq_getElem (by omega)]
  simp [List.getD_eq_getElem?_getD, List.getElem?_eq_getElem (show k < r.length by omega)]
theorem m_set (ph vcode : Value) (r : List Int) (inp : ByteArray) (heard : Int) (vd : Value) (drawn : Int) (vo : Value) (pc next steps en ex : Int) (rep : List Value) (hr : r.length = 8) (k : Nat) (hk : k < 8) (v : Int) :
    (mCells ph vcode r inp heard vd drawn vo pc next steps en ex rep).set (2 + k) (.int .i64 v) = mCells ph vcode (r.set k v) inp heard vd drawn vo pc next steps en ex rep := by
  unfold mCells
  rw [List.append_assoc, List.append_assoc, List.set_append_right _ _ (by simp), List.set_append_left _ _ (by simp; omega)]
  simp only [List.length_cons, List.length_nil]
  rw [show 2 + k - (0 + 1 + 1) = k by omega, ← List.map_set, ← List.append_assoc, ← List.append_assoc]

def bOf (b : Bool) : Int := if b = true then 1 else 0
set_option maxHeartbeats 400000 in
theorem oneIf_any (b : Bool) (w : World) : Calls Tryz.prog 108 #[.bool b] w fun e w' => e = .returned (.int .i64 (bOf b)) ∧ w = w' := by
  cases b
  · go_enter Tryz.func108, Tryz.ntmps108
    go_wp2
    go_ret
    exact ⟨rfl, rfl⟩
  · go_enter Tryz.func108, Tryz.ntmps108
    go_wp2
    go_ret
    exact ⟨rfl, rfl⟩

set_option maxRecDepth 100000 in
set_option maxHeartbeats 1600000 in
theorem result_set (mb : Nat) (a b c : Int) (w : World) (b0 : 0 ≤ b) (b1 : b ≤ 255) (c0 : 0 ≤ c) (c1 : c ≤ 255) :
    Calls Tryz.prog 77 #[.pointer (some ⟨mb, 0, none⟩), .agg #[.int .i64 1, .int .i64 a, .int .i64 b, .int .i64 c]] w fun e w' => e = .returned (.int .i64 (256 * b + c)) ∧ Below w.heap.size w w' := by
  go_enter Tryz.func77, Tryz.ntmps77
  go_wp2
  go_ret
  exact ⟨rfl, (Below.refl _ _).alloc (Nat.le_refl _) _⟩
set_option maxRecDepth 100000 in
set_option maxHeartbeats 1600000 in
theorem result_base (mb : Nat) (a b c : Int) (w : World) (b0 : 0 ≤ b) (b1 : b ≤ 255) (c0 : 0 ≤ c) (c1 : c ≤ 255) :
    Calls Tryz.prog 77 #[.pointer (some ⟨mb, 0, none⟩), .agg #[.int .i64 10, .int .i64 a, .int .i64 b, .int .i64 c]] w fun e w' => e = .returned (.int .i64 (16 + 256 * b + c)) ∧ Below w.heap.size w w' := by
  go_enter Tryz.func77, Tryz.ntmps77
  go_wp2
  go_ret
  exact ⟨rfl, (Below.refl _ _).alloc (Nat.le_refl _) _⟩

/-- What Add, Sub, Less and Same make. -/
def sumV (op x y : Int) : Int := if op = 2 then wrap64 (x + y) else if op = 3 then wrap64 (x - y) else if op = 4 then (if x < y then 1 else 0) else (if x = y then 1 else 0)

set_option maxRecDepth 100000 in
set_option maxHeartbeats 3200000 in
theorem result_sum (mb : Nat) (ph vcode : Value) (r : List Int) (inp : ByteArray) (heard : Int) (vd : Value) (drawn : Int) (vo : Value) (pc next steps en ex : Int) (rep : List Value) (op a : Int) (b c : Nat) (w : World)
    (h : Blk w mb 81 (mCells ph vcode r inp heard vd drawn vo pc next steps en ex rep)) (hr : r.length = 8) (hb : b < 8) (hc : c < 8) (ho : op = 2 ∨ op = 3 ∨ op = 4 ∨ op = 5) :
    Calls Tryz.prog 77 #[.pointer (some ⟨mb, 0, none⟩), .agg #[.int .i64 op, .int .i64 a, .int .i64 (b : Int), .int .i64 (c : Int)]] w fun e w' => e = .returned (.int .i64 (sumV op (rg r b) (rg r c))) ∧ Below w.heap.size w w' := by
  obtain ⟨wa, hwa⟩ : ∃ wa, wa = w.alloc (.cells #[.int .i64 op, .int .i64 a, .int .i64 (b : Int), .int .i64 (c : Int)] 60) := ⟨_, rfl⟩
  have hbl : Below w.heap.size w wa := by rw [hwa]; exact (Below.refl _ _).alloc (Nat.le_refl _) _
  have HX : Hid (Blk wa w.heap.size 60 [.int .i64 op, .int .i64 a, .int .i64 (b : Int), .int .i64 (c : Int)]) := by show Blk _ _ _ _; rw [hwa]; exact Blk.alloc _ _ _
  have HM := hide2 (h.below hbl h.lt)
  have HB := hide2 hbl
  have rb := m_reg HM.out hr b hb
  have rc := m_reg HM.out hr c hc
  have x0 := HX.out.cell (j := 0) rfl
  have x2 := HX.out.cell (j := 2) rfl
  have x3 := HX.out.cell (j := 3) rfl
  have hbI : (b : Int) < 8 := by omega
  have hcI : (c : Int) < 8 := by omega
  generalize rg r b = vb at *
  generalize rg r c = vc at *
  clear h hbl
  rcases ho with rfl | rfl | rfl | rfl
  · go_enter Tryz.func77, Tryz.ntmps77
    go_upto_region 1 with (fail)
    rw [← hwa]
    clear hwa
    go_wp2
    go_quiet (fail)
    go_upto_region 7 with (fail)
    obtain ⟨wb, hwb⟩ : ∃ wb, wb = wa.drewN nq := ⟨_, rfl⟩
    rw [← hwb]
    have hbb : Below wa.heap.size wa wb := by rw [hwb]; exact below_drewN (Below.refl _ _) _
    have HBB : Hid (Below w.heap.size w wb) := HB.out.trans (hbb.mono HB.out.size)
    have rc' := (hbb.cell (p := ⟨mb, 2 + c, none⟩) HM.out.lt).trans rc
    have x3' := (hbb.cell (p := ⟨w.heap.size, 3, none⟩) HX.out.lt).trans x3
    have x0' := (hbb.cell (p := ⟨w.heap.size, 0, none⟩) HX.out.lt).trans x0
    clear hwb hbb rb rc x0 x2 x3 nq
    go_quiet (fail)
    go_wp2
    go_ret
    exact ⟨rfl, below_drewN HBB.out _⟩
  · go_enter Tryz.func77, Tryz.ntmps77
    go_upto_region 1 with (fail)
    rw [← hwa]
    clear hwa
    go_wp2
    go_quiet (fail)
    go_upto_region 7 with (fail)
    obtain ⟨wb, hwb⟩ : ∃ wb, wb = wa.drewN nq := ⟨_, rfl⟩
    rw [← hwb]
    have hbb : Below wa.heap.size wa wb := by rw [hwb]; exact below_drewN (Below.refl _ _) _
    have HBB : Hid (Below w.heap.size w wb) := HB.out.trans (hbb.mono HB.out.size)
    have rc' := (hbb.cell (p := ⟨mb, 2 + c, none⟩) HM.out.lt).trans rc
    have x3' := (hbb.cell (p := ⟨w.heap.size, 3, none⟩) HX.out.lt).trans x3
    have x0' := (hbb.cell (p := ⟨w.heap.size, 0, none⟩) HX.out.lt).trans x0
    clear hwb hbb rb rc x0 x2 x3 nq
    go_quiet (fail)
    go_wp2
    go_ret
    exact ⟨rfl, below_drewN HBB.out _⟩
  · go_enter Tryz.func77, Tryz.ntmps77
    go_upto_region 1 with (fail)
    rw [← hwa]
    clear hwa
    go_wp2
    go_quiet (fail)
    go_upto_region 7 with (fail)
    obtain ⟨wb, hwb⟩ : ∃ wb, wb = wa.drewN nq := ⟨_, rfl⟩
    rw [← hwb]
    have hbb : Below wa.heap.size wa wb := by rw [hwb]; exact below_drewN (Below.refl _ _) _
    have HBB : Hid (Below w.heap.size w wb) := HB.out.trans (hbb.mono HB.out.size)
    have rc' := (hbb.cell (p := ⟨mb, 2 + c, none⟩) HM.out.lt).trans rc
    have x3' := (hbb.cell (p := ⟨w.heap.size, 3, none⟩) HX.out.lt).trans x3
    have x0' := (hbb.cell (p := ⟨w.heap.size, 0, none⟩) HX.out.lt).trans x0
    clear hwb hbb rb rc x0 x2 x3 nq
    go_quiet (fail)
    go_wp2_with (go_at_call 108; refine (oneIf_any _ _).mono ?_; rintro e1 w1 ⟨rfl, rfl⟩)
    go_ret
    exact ⟨ret_int (by unfold sumV bOf; simp), below_drewN HBB.out _⟩
  · go_enter Tryz.func77, Tryz.ntmps77
    go_upto_region 1 with (fail)
    rw [← hwa]
    clear hwa
    go_wp2
    go_quiet (fail)
    go_upto_region 7 with (fail)
    obtain ⟨wb, hwb⟩ : ∃ wb, wb = wa.drewN nq := ⟨_, rfl⟩
    rw [← hwb]
    have hbb : Below wa.heap.size wa wb := by rw [hwb]; exact below_drewN (Below.refl _ _) _
    have HBB : Hid (Below w.heap.size w wb) := HB.out.trans (hbb.mono HB.out.size)
    have rc' := (hbb.cell (p := ⟨mb, 2 + c, none⟩) HM.out.lt).trans rc
    have x3' := (hbb.cell (p := ⟨w.heap.size, 3, none⟩) HX.out.lt).trans x3
    have x0' := (hbb.cell (p := ⟨w.heap.size, 0, none⟩) HX.out.lt).trans x0
    clear hwb hbb rb rc x0 x2 x3 nq
    go_quiet (fail)
    go_wp2_with (go_at_call 108; refine (oneIf_any _ _).mono ?_; rintro e1 w1 ⟨rfl, rfl⟩)
    go_ret
    exact ⟨ret_int (by unfold sumV bOf; simp), below_drewN HBB.out _⟩
end Go.Proofs.YtjikemhmnkckcabGreat
/- The program's machine: the input, the draws. -/
namespace Go.Proofs.YtjikemhmnkckcabGreat
open Go.RowKit
attribute [local go_sem ↓] Go.wp_at_zero Go.wp_at_succ

/-- The next byte of the input, -1 if none is left. -/
def hearV (inp : ByteArray) (heard : Nat) : Int := if heard < inp.size then byteAt inp heard else -1
def hearN (inp : ByteArray) (heard : Nat) : Nat := if heard < inp.size then heard + 1 else heard

set_option maxRecDepth 100000 in
set_option maxHeartbeats 1600000 in
theorem hear_any (mb : Nat) (ph vcode : Value) (r0 r1 r2 r3 r4 r5 r6 r7 : Int) (inp : ByteArray) (heard : Nat) (vd : Value) (drawn : Int) (vo : Value) (pc next steps en ex : Int) (rep : List Value) (w : World) (hi : (inp.size : Int) ≤ 9223372036854775807)
    (h : Blk w mb 81 (mCells ph vcode [r0, r1, r2, r3, r4, r5, r6, r7] inp heard vd drawn vo pc next steps en ex rep)) :
    Calls Tryz.prog 78 #[.pointer (some ⟨mb, 0, none⟩)] w fun e w' => e = .returned (.int .i64 (hearV inp heard)) ∧ Blk w' mb 81 (mCells ph vcode [r0, r1, r2, r3, r4, r5, r6, r7] inp (hearN inp heard) vd drawn vo pc next steps en ex rep) ∧ Kept w w' (· = mb) ∧ w'.heap.size = w.heap.size := by
  have H := hide2 h
  have c10 := h.cell (j := 10) rfl
  have c11 := h.cell (j := 11) rfl
  have f11 := h.frozen 11
  clear h
  by_cases hk : heard < inp.size
  · have hI : (heard : Int) < (inp.size : Int) := by omega
    have hv : byteAt inp heard = (inp[heard].toNat : Int) := byteAt_lt hk
    have hb := byteAt_bd inp heard
    rw [hv] at hb
    have HV : Hid (hearV inp heard = (inp[heard].toNat : Int)) := by show _ = _; unfold hearV; rw [if_pos hk, hv]
    have HN : Hid (hearN inp heard = heard + 1) := by show _ = _; unfold hearN; rw [if_pos hk]
    clear hv
    go_enter Tryz.func78, Tryz.ntmps78
    go_wp2
    go_quiet (fail)
    go_wp2
    go_quiet (fail)
    go_wp2
    go_ret
    exact ⟨by rw [HV.out]; rfl, by rw [HN.out]; exact (show Blk (w.drewN _) mb 81 _ from H.out).setCell 11 _, ((Kept.refl w _).drewN _).setCell _ _ rfl, by simp⟩
  · have hI : (inp.size : Int) ≤ (heard : Int) := by omega
    have HV : Hid (hearV inp heard = -1) := by show _ = _; unfold hearV; rw [if_neg hk]
    have HN : Hid (hearN inp heard = heard) := by show _ = _; unfold hearN; rw [if_neg hk]
    go_enter Tryz.func78, Tryz.ntmps78
    go_wp2
    go_quiet (fail)
    go_wp2
    go_ret
    exact ⟨by rw [HV.out]; rfl, by rw [HN.out]; exact H.out, (Kept.refl w _).drewN _, rfl⟩

/-- A row of draws. -/
structure DRow (w : World) (a : Option Addr) (cap : Nat) (ds : List Int) : Prop where
  len : ds.length ≤ cap
  cap : cap ≤ maxLen
  cells : 0 < ds.length → ∃ g off, a = some ⟨g, off, none⟩ ∧ g < w.heap.size ∧ ∀ i, i < ds.length → w.cell? ⟨g, off + i, none⟩ = some (.int .i64 (ds.getD i 0))
theorem DRow.kept {w w' : World} {a : Option Addr} {cap : Nat} {ds : List Int} (h : DRow w a cap ds) (hs : w.heap.size ≤ w'.heap.size) (hk : ∀ g off, a = some ⟨g, off, none⟩ → g < w.heap.size → w'.heap[g]? = w.heap[g]?) : DRow w' a cap ds := by
  refine ⟨h.len, h.cap, fun h0 => ?_⟩
  obtain ⟨g, off, e, hg, hc⟩ := h.cells h0
  refine ⟨g, off, e, by omega, fun i hi => ?_⟩
  rw [← hc i hi]
  unfold World.cell?
  rw [hk g off e hg]

set_option maxRecDepth 100000 in
set_option maxHeartbeats 1600000 in
theorem draw_yes (mb : Nat) (ph vcode : Value) (r0 r1 r2 r3 r4 r5 r6 r7 : Int) (inp : ByteArray) (heard : Int) (da : Option Addr) (dcap : Nat) (ds : List Int) (drawn : Nat) (vo : Value) (pc next steps en ex : Int) (rep : List Value) (w : World) (hd : DRow w da dcap ds) (hk : drawn < ds.length)
    (h : Blk w mb 81 (mCells ph vcode [r0, r1, r2, r3, r4, r5, r6, r7] inp heard (.slice da ds.length dcap) drawn vo pc next steps en ex rep)) :
    Calls Tryz.prog 109 #[.pointer (some ⟨mb, 0, none⟩)] w fun e w' => e = .returned (.tuple #[.int .i64 (ds.getD drawn 0), .bool true]) ∧ Blk w' mb 81 (mCells ph vcode [r0, r1, r2, r3, r4, r5, r6, r7] inp heard (.slice da ds.length dcap) ((drawn + 1 : Nat) : Int) vo pc next steps en ex rep) ∧ Kept w w' (· = mb) ∧ w'.heap.size = w.heap.size := by
  have H := hide2 h
  have c12 := h.cell (j := 12) rfl
  have c13 := h.cell (j := 13) rfl
  have f13 := h.frozen 13
  have hl := hd.len
  have hc := hd.cap
  unfold maxLen at hc
  obtain ⟨g, off, rfl, hg, hcell⟩ := hd.cells (by omega)
  have d0 := hcell drawn hk
  have hI : (drawn : Int) < (ds.length : Int) := by omega
  generalize ds.getD drawn 0 = dv at *
  clear h hcell hd
  go_enter Tryz.func109, Tryz.ntmps109
  go_wp2
  go_quiet (fail)
  go_wp2
  go_quiet (fail)
  go_wp2
  go_ret2
  exact ⟨rfl, (show Blk (w.drewN _) mb 81 _ from H.out).setCell 13 _, ((Kept.refl w _).drewN _).setCell _ _ rfl, by simp⟩
set_option maxRecDepth 100000 in
set_option maxHeartbeats 1600000 in
theorem draw_no (mb : Nat) (ph vcode : Value) (r0 r1 r2 r3 r4 r5 r6 r7 : Int) (inp : ByteArray) (heard : Int) (da : Option Addr) (n dcap : Nat) (drawn : Nat) (vo : Value) (pc next steps en ex : Int) (rep : List Value) (w : World) (hk : n ≤ drawn)
    (h : Blk w mb 81 (mCells ph vcode [r0, r1, r2, r3, r4, r5, r6, r7] inp heard (.slice da n dcap) drawn vo pc next steps en ex rep)) :
    Calls Tryz.prog 109 #[.pointer (some ⟨mb, 0, none⟩)] w fun e w' => e = .returned (.tuple #[.int .i64 0, .bool false]) ∧ Blk w' mb 81 (mCells ph vcode [r0, r1, r2, r3, r4, r5, r6, r7] inp heard (.slice da n dcap) drawn vo pc next steps 4 ex rep) ∧ Kept w w' (· = mb) ∧ w'.heap.size = w.heap.size := by
  have H := hide2 h
  have c12 := h.cell (j := 12) rfl
  have c13 := h.cell (j := 13) rfl
  have c18 := h.cell (j := 18) rfl
  have f18 := h.frozen 18
  have hI : (n : Int) ≤ (drawn : Int) := by omega
  clear h
  go_enter Tryz.func109, Tryz.ntmps109
  go_wp2
  go_quiet (fail)
  go_wp2
  go_ret2
  exact ⟨rfl, (show Blk (w.drewN _) mb 81 _ from H.out).setCell 18 _, ((Kept.refl w _).drewN _).setCell _ _ rfl, by simp⟩
end Go.Proofs.YtjikemhmnkckcabGreat
/- The law of Run: a list that its owner writes full; the draws that are handed over. -/
namespace Go.Proofs.YtjikemhmnkckcabGreat
open Go.RowKit
attribute [local go_sem ↓] Go.wp_at_zero Go.wp_at_succ

def lentCells : Nat → List Value
  | 0 => []
  | m + 1 => lentCells m ++ [.int .i64 (-1), .int .i64 (m : Int), .int .i64 77]
theorem lentCells_len (m : Nat) : (lentCells m).length = m * 3 := by
  induction m with
  | zero => rfl
  | succ m ih => simp only [lentCells, List.length_append, ih]; simp; omega
theorem lentCells_get (m j : Nat) (h : j < m) : (lentCells m)[j * 3]? = some (.int .i64 (-1)) ∧ (lentCells m)[j * 3 + 1]? = some (.int .i64 (j : Int)) ∧ (lentCells m)[j * 3 + 2]? = some (.int .i64 77) := by
  induction m with
  | zero => omega
  | succ m ih =>
    have hl := lentCells_len m
    simp only [lentCells]
    by_cases e : j = m
    · subst e
      rw [List.getElem?_append_right (by omega), List.getElem?_append_right (by omega), List.getElem?_append_right (by omega), hl, Nat.sub_self, show j * 3 + 1 - j * 3 = 1 by omega, show j * 3 + 2 - j * 3 = 2 by omega]
      exact ⟨rfl, rfl, rfl⟩
    · have := ih (by omega)
      rw [List.getElem?_append_left (by omega), List.getElem?_append_left (by omega), List.getElem?_append_left (by omega)]
      exact this
/-- A list that its owner wrote full. -/
def Lent (w : World) (f : Value) : Prop := f = .slice none 0 0 ∨ ∃ g c, f = .slice (some ⟨g, 0, none⟩) c c ∧ c ≤ maxLen ∧ Blk w g 64 (lentCells c)
theorem Lent.kept {w w' : World} {f : Value} (h : Lent w f) (hk : ∀ g, f.ownBlock = some g → w'.heap[g]? = w.heap[g]?) : Lent w' f := by
  rcases h with h | ⟨g, c, h, hc, hb⟩
  · exact .inl h
  · exact .inr ⟨g, c, h, hc, (hk g (by rw [h]; rfl)).trans hb⟩

set_option maxRecDepth 100000 in
set_option maxHeartbeats 1600000 in
theorem lent_some (g c n : Nat) (cur : List Value) (w : World) (hg : Blk w g 64 cur) (hcl : cur.length = c * 3) (hnc : n ≤ c) (hcm : c ≤ maxLen) :
    Calls Tryz.prog 9 #[.slice (some ⟨g, 0, none⟩) n c] w fun e' w' => e' = .returned (.slice (some ⟨g, 0, none⟩) c c) ∧ Blk w' g 64 (lentCells c) ∧ Kept w w' (· = g) := by
  have hgl0 := hg.lt
  have HG := hide2 hg
  have hcm2 : c ≤ 9223372036854775807 := by unfold maxLen at hcm; omega
  have hnI : (n : Int) ≤ (c : Int) := by omega
  clear hg hcm
  go_enter Tryz.func9, Tryz.ntmps9
  go_wp2
  go_loopw [4] (fun i wr => ∃ (m : Nat) (xs : List Value), m ≤ c ∧ i = .int .i64 (m : Int) ∧ Hid (Blk wr g 64 xs) ∧ xs.length = c * 3 ∧ xs.take (m * 3) = lentCells m ∧ Hid (Kept w wr (· = g))) (fun i _ => c - (intOf i).toNat)
  case atStart => exact ⟨0, cur, by omega, rfl, HG, hcl, by simp [lentCells], Kept.refl _ _⟩
  case round =>
    obtain ⟨m, xs, hm, rfl, HX, hxl, hxt, HK⟩ := hrel
    have hsz := HK.out.size
    by_cases hlt : m < c
    · have hmI : (m : Int) < (c : Int) := by omega
      have d0 : wr.cell? ⟨g, m * 3, none⟩ = some (xs.getD (m * 3) undef) := HX.out.cell (by rw [List.getElem?_eq_getElem (by omega), List.getD_eq_getElem?_getD, List.getElem?_eq_getElem (by omega)]; rfl)
      have d1 : wr.cell? ⟨g, m * 3 + 1, none⟩ = some (xs.getD (m * 3 + 1) undef) := HX.out.cell (by rw [List.getElem?_eq_getElem (by omega), List.getD_eq_getElem?_getD, List.getElem?_eq_getElem (by omega)]; rfl)
      have d2 : wr.cell? ⟨g, m * 3 + 2, none⟩ = some (xs.getD (m * 3 + 2) undef) := HX.out.cell (by rw [List.getElem?_eq_getElem (by omega), List.getD_eq_getElem?_getD, List.getElem?_eq_getElem (by omega)]; rfl)
      have z0 := HX.out.frozen (m * 3)
      have z1 := HX.out.frozen (m * 3 + 1)
      have z2 := HX.out.frozen (m * 3 + 2)
      have HT := hide2 (take_set3 xs m (.int .i64 (-1)) (.int .i64 (m : Int)) (.int .i64 77) (by omega))
      have HXT := hide2 hxt
      have HXL := hide2 hxl
      clear hxt hxl
      generalize xs.getD (m * 3) undef = y0 at *
      generalize xs.getD (m * 3 + 1) undef = y1 at *
      generalize xs.getD (m * 3 + 2) undef = y2 at *
      go_wp2
      go_roundw
      case rel => exact ⟨m + 1, ((xs.set (m * 3) (.int .i64 (-1))).set (m * 3 + 1) (.int .i64 (m : Int))).set (m * 3 + 2) (.int .i64 77), by omega, by go_num, ((HX.out.setCell (m * 3) _).setCell (m * 3 + 1) _).setCell (m * 3 + 2) _, by rw [List.length_set, List.length_set, List.length_set]; exact HXL.out, by rw [HT.out, HXT.out]; rfl, ((HK.out.setCell ⟨g, m * 3, none⟩ _ rfl).setCell ⟨g, m * 3 + 1, none⟩ _ rfl).setCell ⟨g, m * 3 + 2, none⟩ _ rfl⟩
      case measure => simp [intOf]; omega
    · obtain rfl : m = c := by omega
      have HFX : Hid (Blk wr g 64 (lentCells m)) := by
        show Blk _ _ _ _
        rw [← hxt, List.take_of_length_le (by omega)]
        exact HX.out
      clear hxt hxl
      go_wp2
      go_ret
      exact ⟨rfl, HFX.out, HK.out⟩
set_option maxRecDepth 100000 in
set_option maxHeartbeats 800000 in
theorem lent_nil (w : World) : Calls Tryz.prog 9 #[.slice none 0 0] w fun e' w' => e' = .returned (.slice none 0 0) ∧ w = w' := by
  go_enter Tryz.func9, Tryz.ntmps9
  go_wp2
  go_loopw [4] (fun i wr => i = .int .i64 0 ∧ w = wr) (fun _ _ => 0)
  case atStart => exact ⟨rfl, rfl⟩
  case round =>
    obtain ⟨rfl, rfl⟩ := hrel
    go_wp2
    go_ret
    exact ⟨rfl, rfl⟩
theorem lent_any (v : Value) (n : Nat) (xs : List Value) (w : World) (hv : w.ownsRow 0 64 3 v n xs) :
    Calls Tryz.prog 9 #[v] w fun e' w' => ∃ f, e' = .returned f ∧ Lent w' f ∧ Kept w w' (fun b => v.ownBlock = some b) ∧ (∀ b, f.ownBlock = some b → v.ownBlock = some b) ∧ ∃ a k c, f = .slice a k c := by
  rcases hv.2 with ⟨rfl, _⟩ | ⟨g, cap, cur, rfl, _, hg, hnc, hcm, hcs, _⟩
  · refine (lent_nil w).mono ?_
    rintro e' w' ⟨rfl, rfl⟩
    exact ⟨_, rfl, .inl rfl, Kept.refl _ _, fun b hb => hb, _, _, _, rfl⟩
  · have hvb : (Value.slice (some ⟨g, 0, none⟩) n cap).ownBlock = some g := rfl
    have hgb : Blk w g 64 cur.toList := by
      show w.heap[g]? = _
      rw [hg]
    refine (lent_some g cap n cur.toList w hgb (by rw [Array.length_toList]; exact hcs) hnc hcm).mono ?_
    rintro e' w' ⟨rfl, h1, h2⟩
    exact ⟨_, rfl, .inr ⟨g, cap, rfl, hcm, h1⟩, h2.mono fun b _ e => by rw [hvb, e], fun b hb => hb, _, _, _, rfl⟩

set_option maxRecDepth 100000 in
set_option maxHeartbeats 1600000 in
theorem kept_any (f : Value) (w : World) (h : Lent w f) : Calls Tryz.prog 10 #[f] w fun e' w' => e' = .returned (.bool true) ∧ Below w.heap.size w w' := by
  rcases h with rfl | ⟨g, c, rfl, hc, hb⟩
  · go_enter Tryz.func10, Tryz.ntmps10
    go_wp2
    go_loopw [3] (fun i wr => i = .int .i64 0 ∧ w = wr) (fun _ _ => 0)
    case atStart => exact ⟨rfl, rfl⟩
    case round =>
      obtain ⟨rfl, rfl⟩ := hrel
      go_wp2
      go_ret
      exact ⟨rfl, Below.refl _ _⟩
  · have HB := hide2 hb
    have hgl := hb.lt
    unfold maxLen at hc
    clear hb
    go_enter Tryz.func10, Tryz.ntmps10
    go_wp2
    go_loopw [3] (fun i wr => ∃ m : Nat, m ≤ c ∧ i = .int .i64 (m : Int) ∧ Hid (Below w.heap.size w wr)) (fun i _ => c - (intOf i).toNat)
    case atStart => exact ⟨0, by omega, rfl, Below.refl _ _⟩
    case round =>
      obtain ⟨m, hm, rfl, HBW⟩ := hrel
      by_cases hlt : m < c
      · have hmI : (m : Int) < (c : Int) := by omega
        obtain ⟨e0, e1, e2⟩ := lentCells_get c m hlt
        have d0 := (HB.out.below HBW.out hgl).cell e0
        have d1 := (HB.out.below HBW.out hgl).cell e1
        have d2 := (HB.out.below HBW.out hgl).cell e2
        clear e0 e1 e2
        go_wp2
        go_roundw
        case rel => exact ⟨m + 1, by omega, by go_num, HBW⟩
        case measure => simp [intOf]; omega
      · obtain rfl : m = c := by omega
        go_wp2
        go_ret
        exact ⟨rfl, HBW.out⟩

theorem info_int2 : (Tryz.prog.info? 3).map (fun i => (i.zero, i.size, i.bytes)) = some (some (.int .i64 0), 1, 8) := by kernel_rfl
/-- The draws are copied into a new list with room for one more. -/
theorem copy_draws (ds : List Int) (da : Option Addr) (dcap cb : Nat) (mc : List Value) (w : World) (hd : DRow w da dcap ds) (hm : mc.length = ds.length + 1) (hb : Blk w cb 3 mc) :
    ∃ (W : World) (t0 : Value), (Builtin.copy_ #[22, 22] 3 #[.slice (some ⟨cb, 0, none⟩) (ds.length + 1) (ds.length + 1), .slice da ds.length dcap]).run Tryz.prog w = .ok (goInt ds.length) W ∧
      Blk W cb 3 (ds.map (Value.int .i64) ++ [t0]) ∧ Kept w W (· = cb) ∧ W.heap.size = w.heap.size := by
  obtain ⟨i0, hi0, hz0, hz1, hz2⟩ := info_parts info_int2
  have hsz : (Tryz.prog.info? 3).map (·.size) = some 1 := by rw [hi0]; simp [hz1]
  obtain ⟨t0, htail⟩ : ∃ t0, mc.drop ds.length = [t0] := by
    have hl : (mc.drop ds.length).length = 1 := by rw [List.length_drop]; omega
    match hm : mc.drop ds.length, hl with
    | [t0], _ => exact ⟨t0, rfl⟩
  by_cases hn0 : ds.length = 0
  · have hcl : ds = [] := List.eq_nil_of_length_eq_zero hn0
    subst hcl
    refine ⟨w, t0, run_copy_empty w _ _ _ 3 1 _ _ _ _ _ Tryz.underlying22 hsz, ?_, Kept.refl _ _, rfl⟩
    have : mc = [t0] := by simpa using htail
    rw [← this]; simpa using hb
  · obtain ⟨g, off, ha, hg, hc⟩ := hd.cells (by omega)
    subst ha
    have hfl : (ds.map (Value.int .i64)).length = ds.length * 1 := by simp
    have hrn := run_copy_wide (P := Tryz.prog) w 22 22 3 3 1 cb (ds.length + 1) (ds.length + 1) ⟨g, off, none⟩ ds.length dcap mc.toArray 3 (ds.map (Value.int .i64)) Tryz.underlying22 hsz hb (by omega) hfl (fun j v hv => by
      have hj : j < ds.length := by
        rcases Nat.lt_or_ge j (ds.map (Value.int .i64)).length with h | h
        · simpa using h
        · rw [List.getElem?_eq_none h] at hv; cases hv
      rw [add_lit, hc j hj]
      rw [List.getElem?_map, List.getElem?_eq_getElem hj] at hv
      simp only [Option.map_some, Option.some.injEq] at hv
      rw [← hv]
      simp [List.getD_eq_getElem?_getD, List.getElem?_eq_getElem hj]) (by rw [hfl]; simp [hm]) (by intro v hv; simp only [List.mem_map] at hv; obtain ⟨x, _, rfl⟩ := hv; rfl)
    rw [hfl, Nat.mul_one, htail] at hrn
    exact ⟨_, t0, hrn, setRow_heap w _ _ _ _ _ hb, ⟨rfl, rfl, rfl, by simp [World.setRow], fun k hk hs => setRow_other w _ k _ hs⟩, by simp [World.setRow]⟩
end Go.Proofs.YtjikemhmnkckcabGreat
