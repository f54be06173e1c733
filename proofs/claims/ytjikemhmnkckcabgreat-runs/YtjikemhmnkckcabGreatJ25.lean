import Derived.Test.YtjikemhmnkckcabGreatJ24
import Derived.Test.YtjikemhmnkckcabGreatJ20
import Derived.Deep.QuietTactic
import Derived.BigQuiet
import Derived.Deep.Cut
import Derived.Test.YtjikemhmnkckcabGreatJ23
/- A script played, over any kinds, by the contracts of step, looks and ends. -/
namespace Go.Proofs.YtjikemhmnkckcabGreat
open Go.RowKit

/-- is the kind among these? -/
def hasKind (kk : List Int) (k : Int) : Bool := kk.contains k

/-- two script's worlds between the steps -/
structure Two2 (I : World → Nat → Nat → (Nat → Prop) → Prop) (w wr : World) (q1 q2 n : Nat) : Prop where
  two : ∃ F1 F2, I wr q1 n F1 ∧ I wr q2 n F2 ∧ (∀ b, F1 b → ¬ F2 b) ∧ (∀ b, F1 b → w.heap.size ≤ b) ∧ (∀ b, F2 b → w.heap.size ≤ b)
  bel : Below w.heap.size w wr
section
end

end Go.Proofs.YtjikemhmnkckcabGreat
/- Named: a report that names a block. -/
namespace Go.Proofs.YtjikemhmnkckcabGreat
open Go.RowKit
attribute [local go_sem ↓] Go.wp_at_zero Go.wp_at_succ

def nearNo : Int × Int × Int := (0, 0, 0)
theorem near_cells {w : World} {g : Nat} {l : List (Int × Int × Int)} (hc : ∀ j u, (l.flatMap nearCells)[j]? = some u → w.cell? ⟨g, j, none⟩ = some u) (i : Nat) (hi : i < l.length) :
    w.cell? ⟨g, i * 3, none⟩ = some (.int .i64 (l.getD i nearNo).1) ∧ w.cell? ⟨g, i * 3 + 1, none⟩ = some (.int .i64 (l.getD i nearNo).2.1) ∧ w.cell? ⟨g, i * 3 + 2, none⟩ = some (.int .i64 (l.getD i nearNo).2.2) := by
  have h6 : ∀ j, j < 3 → (l.flatMap nearCells)[i * 3 + j]? = (nearCells (l.getD i nearNo))[j]? := fun j hj => by
    rw [flat_get nearCells 3 (fun _ => rfl) l i j hj, List.getElem?_eq_getElem hi]
    simp [List.getD_eq_getElem?_getD, List.getElem?_eq_getElem hi]
  have hx := fun j (hj : j < 3) u hu => hc (i * 3 + j) u (by rw [h6 j hj]; exact hu)
  exact ⟨hx 0 (by omega) _ rfl, hx 1 (by omega) _ rfl, hx 2 (by omega) _ rfl⟩

end Go.Proofs.YtjikemhmnkckcabGreat
/- Two reports that say the same. -/
namespace Go.Proofs.YtjikemhmnkckcabGreat
open Go.RowKit
attribute [local go_sem ↓] Go.wp_at_zero Go.wp_at_succ

set_option maxRecDepth 100000 in
set_option maxHeartbeats 1600000 in
theorem sameNear_yes (l : List (Int × Int × Int)) (va vb : Value) (w : World) (ha : w.ownsRow 0 64 3 va l.length (l.flatMap nearCells)) (hb : w.ownsRow 0 64 3 vb l.length (l.flatMap nearCells)) :
    Calls Tryz.prog 21 #[va, vb] w fun e w' => e = .returned (.bool true) ∧ Below w.heap.size w w' := by
  obtain ⟨a, cap, rfl, hcap, hmax, hrow⟩ := row_open ha
  obtain ⟨b, capb, rfl, hcapb, hmaxb, hrowb⟩ := row_open hb
  unfold maxLen at hmax hmaxb
  have HA := hide2 hrow
  have HB := hide2 hrowb
  have e3 : (((l.length : Nat) : Int) != ((l.length : Nat) : Int)) = false := by simp
  clear ha hb hrow hrowb
  go_enter Tryz.func21, Tryz.ntmps21
  go_wp2
  go_loopw [5] (fun i wr => ∃ m : Nat, m ≤ l.length ∧ i = .int .i64 (m : Int) ∧ Below w.heap.size w wr) (fun i _ => l.length - (intOf i).toNat)
  case atStart => exact ⟨0, by omega, rfl, Below.refl _ _⟩
  case round =>
    obtain ⟨m, hm, rfl, hb⟩ := hrel
    by_cases hlt : m < l.length
    · obtain ⟨g, rfl, hgl, hcell, _⟩ := HA.out (by omega)
      obtain ⟨g', rfl, hgl', hcell', _⟩ := HB.out (by omega)
      obtain ⟨d0, d1, d2⟩ := near_cells hcell m hlt
      obtain ⟨f0, f1, f2⟩ := near_cells hcell' m hlt
      have d0' := (hb.cell (p := ⟨g, m * 3, none⟩) hgl).trans d0
      have d1' := (hb.cell (p := ⟨g, m * 3 + 1, none⟩) hgl).trans d1
      have d2' := (hb.cell (p := ⟨g, m * 3 + 2, none⟩) hgl).trans d2
      have f0' := (hb.cell (p := ⟨g', m * 3, none⟩) hgl').trans f0
      have f1' := (hb.cell (p := ⟨g', m * 3 + 1, none⟩) hgl').trans f1
      have f2' := (hb.cell (p := ⟨g', m * 3 + 2, none⟩) hgl').trans f2
      have i0 : (0 : Int) ≤ (m : Int) := by omega
      have i1 : (m : Int) < (l.length : Int) := by omega
      have HBW := hide2 hb
      clear hcell hcell' HA HB d0 d1 d2 f0 f1 f2 hb
      generalize l.getD m nearNo = x at *
      obtain ⟨x1, x2, x3⟩ := x
      dsimp only at d0' d1' d2' f0' f1' f2'
      go_wp2_with fail
      go_quiet (fail)
      go_wp2
      go_roundw
      case rel => exact ⟨m + 1, by omega, by go_num, below_drewN HBW.out _⟩
      case measure => simp [intOf]; omega
    · go_wp2
      go_ret
      exact ⟨rfl, hb⟩

set_option maxRecDepth 100000 in
set_option maxHeartbeats 1600000 in
theorem sameReport_yes (r : Rpt) (va vb : Value) (w : World) (ha : w.ownsRow 0 64 3 va r.near.length (r.near.flatMap nearCells)) (hb : w.ownsRow 0 64 3 vb r.near.length (r.near.flatMap nearCells)) :
    Calls Tryz.prog 8 #[rptV r va, rptV r vb] w fun e w' => e = .returned (.bool true) ∧ Below w.heap.size w w' := by
  obtain ⟨z1, z2, z3, z4, z5, z6, z7, z8, z9, near⟩ := r
  change w.ownsRow 0 64 3 va near.length (near.flatMap nearCells) at ha
  change w.ownsRow 0 64 3 vb near.length (near.flatMap nearCells) at hb
  have HA := hide2 ha
  have HB := hide2 hb
  obtain ⟨a, cap, rfl, -, -, -⟩ := row_open ha
  obtain ⟨b, capb, rfl, -, -, -⟩ := row_open hb
  clear ha hb
  unfold rptV rptCells
  dsimp only
  go_enter Tryz.func8, Tryz.ntmps8
  go_wp2_with fail
  obtain ⟨w1, hw1⟩ : ∃ w1, w1 = (w.alloc (.cells #[.int .i64 z1, .int .i64 z2, .int .i64 z3, .int .i64 z4, .int .i64 z5, .int .i64 z6, .int .i64 z7, .int .i64 z8, .int .i64 z9, .slice a near.length cap] 26)).alloc (.cells #[.int .i64 z1, .int .i64 z2, .int .i64 z3, .int .i64 z4, .int .i64 z5, .int .i64 z6, .int .i64 z7, .int .i64 z8, .int .i64 z9, .slice b near.length capb] 26) := ⟨_, rfl⟩
  rw [← hw1]
  have hb1 : Below w.heap.size w w1 := by rw [hw1]; exact ((Below.refl _ _).alloc (Nat.le_refl _) _).alloc (by simp) _
  have HA1 : Hid (Blk w1 w.heap.size 26 [.int .i64 z1, .int .i64 z2, .int .i64 z3, .int .i64 z4, .int .i64 z5, .int .i64 z6, .int .i64 z7, .int .i64 z8, .int .i64 z9, .slice a near.length cap]) := by
    show Blk _ _ _ _
    rw [hw1]
    exact (Blk.alloc w 26 [.int .i64 z1, .int .i64 z2, .int .i64 z3, .int .i64 z4, .int .i64 z5, .int .i64 z6, .int .i64 z7, .int .i64 z8, .int .i64 z9, .slice a near.length cap]).below ((Below.refl _ _).alloc (Nat.le_refl _) _) (by simp)
  have HB1 : Hid (Blk w1 (w.heap.size + 1) 26 [.int .i64 z1, .int .i64 z2, .int .i64 z3, .int .i64 z4, .int .i64 z5, .int .i64 z6, .int .i64 z7, .int .i64 z8, .int .i64 z9, .slice b near.length capb]) := by
    show Blk _ _ _ _
    rw [hw1]
    have := Blk.alloc (w.alloc (.cells #[.int .i64 z1, .int .i64 z2, .int .i64 z3, .int .i64 z4, .int .i64 z5, .int .i64 z6, .int .i64 z7, .int .i64 z8, .int .i64 z9, .slice a near.length cap] 26)) 26 [.int .i64 z1, .int .i64 z2, .int .i64 z3, .int .i64 z4, .int .i64 z5, .int .i64 z6, .int .i64 z7, .int .i64 z8, .int .i64 z9, .slice b near.length capb]
    rw [World.size_alloc] at this
    exact this
  have HBW := hide2 hb1
  clear hw1 hb1
  refine (sameNear_yes near _ _ w1 (row_below HA.out HBW.out fun _ => row_lt HA.out) (row_below HB.out HBW.out fun _ => row_lt HB.out)).mono ?_
  rintro e2 w2 ⟨rfl, hb2⟩
  have HA2 := hide2 (HA1.out.below hb2 HA1.out.lt)
  have HB2 := hide2 (HB1.out.below hb2 HB1.out.lt)
  have HW2 : Hid (Below w.heap.size w w2) := HBW.out.trans (hb2.mono HBW.out.size)
  obtain ⟨ra, hra⟩ : ∃ ra, ra = w.heap.size := ⟨_, rfl⟩
  rw [← hra] at HA2 HB2 ⊢
  have HRA := hide2 hra
  have hla := HA2.out.lt
  have hlb := HB2.out.lt
  clear hb2 HA1 HB1 HBW hra
  have a0 := HA2.out.cell (j := 0) rfl
  have b0 := HB2.out.cell (j := 0) rfl
  have a1 := HA2.out.cell (j := 1) rfl
  have b1 := HB2.out.cell (j := 1) rfl
  have a2 := HA2.out.cell (j := 2) rfl
  have b2 := HB2.out.cell (j := 2) rfl
  have a3 := HA2.out.cell (j := 3) rfl
  have b3 := HB2.out.cell (j := 3) rfl
  have a4 := HA2.out.cell (j := 4) rfl
  have b4 := HB2.out.cell (j := 4) rfl
  have a5 := HA2.out.cell (j := 5) rfl
  have b5 := HB2.out.cell (j := 5) rfl
  have a6 := HA2.out.cell (j := 6) rfl
  have b6 := HB2.out.cell (j := 6) rfl
  have a7 := HA2.out.cell (j := 7) rfl
  have b7 := HB2.out.cell (j := 7) rfl
  have a8 := HA2.out.cell (j := 8) rfl
  have b8 := HB2.out.cell (j := 8) rfl
  clear HA2 HB2
  go_wp2_with fail
  go_quiet (first | (go_at_call 22; refine Calls.quiet_of_same ((num_any _ _).mono (fun _ _ h => ⟨h.1, h.2.symm⟩))))
  go_wp2
  go_ret
  exact ⟨by simp, by first | exact below_drewN HW2.out _ | (rw [HRA.out]; exact below_drewN HW2.out _)⟩
end Go.Proofs.YtjikemhmnkckcabGreat
/- The lists that came out: their owner writes them full. -/
namespace Go.Proofs.YtjikemhmnkckcabGreat
open Go.RowKit
attribute [local go_sem ↓] Go.wp_at_zero Go.wp_at_succ

def fullCells (idx : Int) : Nat → List Value
  | 0 => []
  | m + 1 => fullCells idx m ++ [.int .i64 (-1), .int .i64 idx, .int .i64 (m : Int)]
theorem fullCells_len (idx : Int) (m : Nat) : (fullCells idx m).length = m * 3 := by
  induction m with
  | zero => rfl
  | succ m ih => simp only [fullCells, List.length_append, ih]; simp; omega
theorem fullCells_get (idx : Int) (m j : Nat) (h : j < m) : (fullCells idx m)[j * 3]? = some (.int .i64 (-1)) ∧ (fullCells idx m)[j * 3 + 1]? = some (.int .i64 idx) ∧ (fullCells idx m)[j * 3 + 2]? = some (.int .i64 (j : Int)) := by
  induction m with
  | zero => omega
  | succ m ih =>
    have hl := fullCells_len idx m
    simp only [fullCells]
    by_cases e : j = m
    · subst e
      rw [List.getElem?_append_right (by omega), List.getElem?_append_right (by omega), List.getElem?_append_right (by omega), hl, Nat.sub_self, show j * 3 + 1 - j * 3 = 1 by omega, show j * 3 + 2 - j * 3 = 2 by omega]
      exact ⟨rfl, rfl, rfl⟩
    · have := ih (by omega)
      rw [List.getElem?_append_left (by omega), List.getElem?_append_left (by omega), List.getElem?_append_left (by omega)]
      exact this
theorem take_set3 (xs : List Value) (m : Nat) (a b c : Value) (h : m * 3 + 3 ≤ xs.length) : (((xs.set (m * 3) a).set (m * 3 + 1) b).set (m * 3 + 2) c).take ((m + 1) * 3) = xs.take (m * 3) ++ [a, b, c] := by
  apply List.ext_getElem?
  intro i
  rw [List.getElem?_take]
  by_cases h1 : i < m * 3
  · rw [if_pos (by omega), List.getElem?_set_ne (by omega), List.getElem?_set_ne (by omega), List.getElem?_set_ne (by omega), List.getElem?_append_left (by rw [List.length_take]; omega), List.getElem?_take, if_pos h1]
  · rw [List.getElem?_append_right (by rw [List.length_take]; omega), List.length_take, show min (m * 3) xs.length = m * 3 by omega]
    by_cases e0 : i = m * 3
    · subst e0
      rw [if_pos (by omega), List.getElem?_set_ne (by omega), List.getElem?_set_ne (by omega), List.getElem?_set_self (by omega), Nat.sub_self]; rfl
    · by_cases e1 : i = m * 3 + 1
      · subst e1
        rw [if_pos (by omega), List.getElem?_set_ne (by omega), List.getElem?_set_self (by rw [List.length_set]; omega), show m * 3 + 1 - m * 3 = 1 by omega]; rfl
      · by_cases e2 : i = m * 3 + 2
        · subst e2
          rw [if_pos (by omega), List.getElem?_set_self (by rw [List.length_set, List.length_set]; omega), show m * 3 + 2 - m * 3 = 2 by omega]; rfl
        · rw [if_neg (by omega), List.getElem?_eq_none (by simp; omega)]

/-- a list that its owner wrote full -/
def LOk (w : World) (i : Nat) (f : Value) : Prop := f = .slice none 0 0 ∨ ∃ g c, f = .slice (some ⟨g, 0, none⟩) c c ∧ c ≤ maxLen ∧ Blk w g 64 (fullCells i c)
theorem LOk.kept {w w' : World} {i : Nat} {f : Value} (h : LOk w i f) (hk : ∀ g, f.ownBlock = some g → w'.heap[g]? = w.heap[g]?) : LOk w' i f := by
  rcases h with h | ⟨g, c, h, hc, hb⟩
  · exact .inl h
  · exact .inr ⟨g, c, h, hc, (hk g (by rw [h]; rfl)).trans hb⟩
theorem LOk.lt {w : World} {i : Nat} {f : Value} (h : LOk w i f) {g : Nat} (hg : f.ownBlock = some g) : g < w.heap.size := by
  rcases h with h | ⟨g', c, h, hc, hb⟩
  · rw [h] at hg; cases hg
  · rw [h] at hg
    simp [Value.ownBlock] at hg
    rw [← hg]; exact hb.lt
structure LRep (w : World) (vs : Value) (L : List Value) : Prop where
  row : w.ownsRow 0 24 1 vs L.length L
  each : ∀ i, i < L.length → LOk w i (L.getD i undef)
  ap : ∀ i, i < L.length → ∀ g, (L.getD i undef).ownBlock = some g → vs.ownBlock ≠ some g
def LFoot (vs : Value) (L : List Value) (b : Nat) : Prop := vs.ownBlock = some b ∨ ∃ i, i < L.length ∧ (L.getD i undef).ownBlock = some b
theorem LRep.foot_lt {w : World} {vs : Value} {L : List Value} (h : LRep w vs L) {b : Nat} (hb : LFoot vs L b) : b < w.heap.size := by
  rcases hb with hb | ⟨i, hi, hb⟩
  · exact row_lt h.row hb
  · exact (h.each i hi).lt hb
theorem LRep.kept {w w' : World} {vs : Value} {L : List Value} (h : LRep w vs L) (hk : ∀ b, LFoot vs L b → w'.heap[b]? = w.heap[b]?) : LRep w' vs L :=
  ⟨row_kept h.row (fun g hg => hk g (.inl hg)), fun i hi => (h.each i hi).kept (fun g hg => hk g (.inr ⟨i, hi, hg⟩)), h.ap⟩
theorem LRep.below {w w' : World} {vs : Value} {L : List Value} (h : LRep w vs L) (hb : Below w.heap.size w w') : LRep w' vs L := h.kept fun b hf => hb.block b (h.foot_lt hf)

theorem info_lists : (Tryz.prog.info? 24).map (fun i => (i.zero, i.size, i.bytes)) = some (some (.slice none 0 0), 1, 24) := by kernel_rfl

end Go.Proofs.YtjikemhmnkckcabGreat
