import Derived.Test.YtjikemhmnkckcaaJ25
import Derived.Test.YtjikemhmnkckcaaJ20
namespace Go.Proofs.Ytjikemhmnkckcaa
open Go.RowKit

theorem plays_any (st rest : Int) (a : Option Addr) (cap : Nat) (cls : List (Int × Int)) (sa : Option Addr) (slen scap : Nat) (v : Nat → Nat → Int) (kb : Nat) (w : World) (h : CRow w a cap cls) (hreach : cls.length * 16 ≤ 140737488351232)
    (hs : SRow w sa slen scap v) (hsr : slen * 72 ≤ 140737488351232) (hk : ∀ m, m < 3 → w.cell? ⟨kb, m, none⟩ = some (.int .i64 (kindAt m))) :
    Calls Try.prog 21 #[.agg #[.int .i64 st, .int .i64 rest, .slice a cls.length cap], .slice sa slen scap, .slice (some ⟨kb, 0, none⟩) 3 3, .bool false] w fun e w' => e = .returned (.bool true) ∧ Below w.heap.size w w' := by
  cases hv : Cf.validB st rest cls
  · exact plays_no st rest a cap cls _ _ w h hreach hv
  · exact plays_yes st rest a cap cls sa slen scap v kb w h hreach (Cf.valid_of hv) hs hsr hk

set_option maxRecDepth 100000 in
set_option maxHeartbeats 800000 in
theorem mallocs_any (st rest : Int) (a : Option Addr) (cap : Nat) (cls : List (Int × Int)) (sa : Option Addr) (slen scap : Nat) (v : Nat → Nat → Int) (w : World) (h : CRow w a cap cls) (hreach : cls.length * 16 ≤ 140737488351232)
    (hs : SRow w sa slen scap v) (hsr : slen * 72 ≤ 140737488351232) :
    Calls Try.prog 5 #[.agg #[.int .i64 st, .int .i64 rest, .slice a cls.length cap], .slice sa slen scap] w fun e w' => e = .returned (.bool true) ∧ Below w.heap.size w w' := by
  have HC := hide2 h
  have HS := hide2 hs
  clear h hs
  go_enter Try.func5, Try.ntmps5
  go_wp2_with fail
  obtain ⟨wb, hwb⟩ : ∃ wb, wb = (w.alloc (.cells #[.int .i64 st, .int .i64 rest, .slice a cls.length cap] 24)).alloc (.cells #[.int .i64 1, .int .i64 2, .int .i64 10] 3) := ⟨_, rfl⟩
  rw [← hwb]
  have hb : Below w.heap.size w wb := by rw [hwb]; exact ((Below.refl _ _).alloc (Nat.le_refl _) _).alloc (by simp) _
  have HK : Hid (∀ m, m < 3 → wb.cell? ⟨w.heap.size + 1, m, none⟩ = some (.int .i64 (kindAt m))) := by
    have hB : Blk wb (w.heap.size + 1) 3 [.int .i64 1, .int .i64 2, .int .i64 10] := by
      rw [hwb]
      have := Blk.alloc (w.alloc (.cells #[.int .i64 st, .int .i64 rest, .slice a cls.length cap] 24)) 3 [.int .i64 1, .int .i64 2, .int .i64 10]
      rw [World.size_alloc] at this
      exact this
    intro m hm
    match m, hm with
    | 0, _ => exact hB.cell (j := 0) rfl
    | 1, _ => exact hB.cell (j := 1) rfl
    | 2, _ => exact hB.cell (j := 2) rfl
  clear hwb
  refine (plays_any st rest a cap cls sa slen scap v _ wb (HC.out.below hb) hreach (HS.out.below hb) hsr HK.out).mono ?_
  rintro e w1 ⟨rfl, hb1⟩
  go_wp2
  go_ret
  exact ⟨rfl, hb.trans (hb1.mono hb.size)⟩
end Go.Proofs.Ytjikemhmnkckcaa
/- The document's bytes: Byte and mark. -/
namespace Go.Proofs.Ytjikemhmnkckcaa
open Go.RowKit

def mkNo : Int × Int × Int := (0, 0, 0)
namespace Ref
def byteTo (marks : List (Int × Int × Int)) (addr since : Int) : Nat → Int
  | 0 => 0
  | n + 1 => if (marks.getD n mkNo).1 = addr ∧ since ≤ (marks.getD n mkNo).2.2 then (marks.getD n mkNo).2.1 else byteTo marks addr since n
/-- behind which event a mark at this address counts -/
def sinceAt (st : Int) (cls : List (Int × Int)) (log : List Ev) (addr : Int) : Int :=
  if (Cf.slot st cls addr).1 < 0 then 0 else given log (Cf.slot st cls addr).1 (Cf.slot st cls addr).2 + 1
end Ref
def RSt.byte (R : RSt) (addr : Int) : Int := Ref.byteTo R.marks addr (Ref.sinceAt R.st R.cls R.log addr) R.marks.length
def RSt.mark (R : RSt) (addr b : Int) : RSt := ⟨R.st, R.rest, R.cls, R.log, R.marks ++ [(addr, b, (R.log.length : Int))]⟩

theorem mk_cells {w : World} {g : Nat} {marks : List (Int × Int × Int)} (hc : ∀ j u, (marks.flatMap mkCells)[j]? = some u → w.cell? ⟨g, j, none⟩ = some u) (i : Nat) (hi : i < marks.length) :
    w.cell? ⟨g, i * 3, none⟩ = some (.int .i64 (marks.getD i mkNo).1) ∧ w.cell? ⟨g, i * 3 + 1, none⟩ = some (.int .i64 (marks.getD i mkNo).2.1) ∧ w.cell? ⟨g, i * 3 + 2, none⟩ = some (.int .i64 (marks.getD i mkNo).2.2) := by
  have h6 : ∀ j, j < 3 → (marks.flatMap mkCells)[i * 3 + j]? = (mkCells (marks.getD i mkNo))[j]? := fun j hj => by
    rw [flat_get mkCells 3 (fun _ => rfl) marks i j hj, List.getElem?_eq_getElem hi]
    simp [List.getD_eq_getElem?_getD, List.getElem?_eq_getElem hi]
  have hx := fun j (hj : j < 3) u hu => hc (i * 3 + j) u (by rw [h6 j hj]; exact hu)
  exact ⟨hx 0 (by omega) _ rfl, hx 1 (by omega) _ rfl, hx 2 (by omega) _ rfl⟩

set_option maxRecDepth 100000 in
set_option maxHeartbeats 1000000 in
theorem rbyte_any (p : Nat) (vc vl vm : Value) (R : RSt) (addr : Int) (w : World) (h : RRep w p vc vl vm R) (ho : ROk R) :
    Calls Try.prog 113 #[.pointer (some ⟨p, 0, none⟩), .int .i64 addr] w fun e w' => e = .returned (.int .i64 (R.byte addr)) ∧ Below w.heap.size w w' := by
  have HR := hide2 h
  have HO := hide2 ho
  have hp := h.blk.lt
  have c0 := h.blk.cell (j := 0) rfl
  have c1 := h.blk.cell (j := 1) rfl
  have c2 := h.blk.cell (j := 2) rfl
  have c4 := h.blk.cell (j := 4) rfl
  obtain ⟨a, cap, rfl, hcr⟩ := CRow.of_row h.cls
  obtain ⟨am, capm, rfl, hcapm, hmaxm, hrow⟩ := row_open h.marks
  obtain ⟨_, _, _, _, hmaxl, _⟩ := row_open h.log
  unfold maxLen at hmaxm hmaxl
  have HC := hide2 hcr
  have HM : Hid (0 < R.marks.length → ∃ g, am = some ⟨g, 0, none⟩ ∧ g < w.heap.size ∧ (∀ j u, (R.marks.flatMap mkCells)[j]? = some u → w.cell? ⟨g, j, none⟩ = some u) ∧ (∀ j, w.frozen? ⟨g, j, none⟩ = false)) := hrow
  clear h ho hcr hrow
  rcases Cf.slot_bd R.st R.cls addr with hsl | ⟨k, s, hsl, hk, hs2, _⟩
  · have HS := hide2 hsl
    obtain ⟨sn, hsn⟩ : ∃ sn : Int, sn = 0 := ⟨0, rfl⟩
    have HSA : Hid (R.byte addr = Ref.byteTo R.marks addr sn R.marks.length) := by
      show _ = _
      unfold RSt.byte Ref.sinceAt
      rw [hsl, if_pos (by decide), hsn]
    clear hsl
    go_enter Try.func113, Try.ntmps113
    go_wp2_with fail
    refine (slot_any R.st R.rest _ cap R.cls _ _ HO.out.conf HC.out).mono ?_
    rw [HS.out]
    rintro e1 w1 ⟨rfl, hb1⟩
    have HBL := hide2 hb1
    have c4'' := (hb1.cell (p := ⟨p, 4, none⟩) hp).trans c4
    rw [← hsn]
    go_wp2
    have HSA' := HSA
    go_loopw [9] (fun i wr => ∃ m : Nat, m ≤ R.marks.length ∧ i = .int .i64 ((m : Int) - 1) ∧ Hid (R.byte addr = Ref.byteTo R.marks addr sn m) ∧ Below w.heap.size w wr) (fun i _ => (intOf i + 1).toNat)
    case atStart => exact ⟨_, Nat.le_refl _, rfl, HSA.out, HBL.out⟩
    case round =>
      obtain ⟨m, hm, rfl, hg, hb⟩ := hrel
      cases m with
      | zero =>
        go_wp2
        go_ret
        exact ⟨ret_int hg.out.symm, hb⟩
      | succ i =>
        obtain ⟨g, rfl, hgl, hcell, hfr⟩ := HM.out (by omega)
        have e1 : ((i + 1 : Nat) : Int) - 1 = (i : Int) := by omega
        rw [e1]
        have hc : ∀ j u, (R.marks.flatMap mkCells)[j]? = some u → wr.cell? ⟨g, j, none⟩ = some u := fun j u hu => by rw [hb.cell (p := ⟨g, j, none⟩) hgl]; exact hcell j u hu
        obtain ⟨d0, d1, d2⟩ := mk_cells hc i (by omega)
        have c4' : wr.cell? ⟨p, 4, none⟩ = some (.slice (some ⟨g, 0, none⟩) R.marks.length capm) := by rw [hb.cell (p := ⟨p, 4, none⟩) hp]; exact c4
        have hst : Hid (Ref.byteTo R.marks addr sn (i + 1) = if (R.marks.getD i mkNo).1 = addr ∧ sn ≤ (R.marks.getD i mkNo).2.2 then (R.marks.getD i mkNo).2.1 else Ref.byteTo R.marks addr sn i) := rfl
        generalize R.marks.getD i mkNo = mk at *
        obtain ⟨m1, m2, m3⟩ := mk
        clear hcell hfr hc HM c4 e1 HC HR
        by_cases h1 : m1 = addr
        · have h1b : (m1 == addr) = true := by simp [h1]
          by_cases h2 : sn ≤ m3
          · have HF : Hid (R.byte addr = m2) := hg.out.trans (hst.out.trans (if_pos ⟨h1, h2⟩))
            clear h1 hst hg
            go_wp2
            go_ret
            exact ⟨ret_int HF.out.symm, hb.alloc hb.size _⟩
          · have HF : Hid (R.byte addr = Ref.byteTo R.marks addr sn i) := hg.out.trans (hst.out.trans (if_neg (fun x => h2 x.2)))
            clear h1 hst hg
            go_wp2
            go_roundw
            case rel => exact ⟨i, by omega, rfl, HF.out, hb.alloc hb.size _⟩
            case measure => simp [intOf]
        · have h1b : (m1 == addr) = false := by rw [beq_eq_false_iff_ne]; exact h1
          have HF : Hid (R.byte addr = Ref.byteTo R.marks addr sn i) := hg.out.trans (hst.out.trans (if_neg (fun x => h1 x.1)))
          clear h1 hst hg
          go_wp2
          go_roundw
          case rel => exact ⟨i, by omega, rfl, HF.out, hb.alloc hb.size _⟩
          case measure => simp [intOf]
  · have HS := hide2 hsl
    obtain ⟨sn, hsn⟩ : ∃ sn : Int, sn = Ref.given R.log k s + 1 := ⟨_, rfl⟩
    have g1 := Ref.given_lo R.log k s
    have g2 := Ref.given_hi R.log k s
    have HSA : Hid (R.byte addr = Ref.byteTo R.marks addr sn R.marks.length) := by
      show _ = _
      unfold RSt.byte Ref.sinceAt
      rw [hsl, if_neg (by simp), hsn]
    clear hsl
    go_enter Try.func113, Try.ntmps113
    go_wp2_with fail
    refine (slot_any R.st R.rest _ cap R.cls _ _ HO.out.conf HC.out).mono ?_
    rw [HS.out]
    rintro e1 w1 ⟨rfl, hb1⟩
    go_wp2_with fail
    refine (given_any p _ vl _ R _ _ w1 (HR.out.below hb1)).mono ?_
    rintro e1 w2 ⟨rfl, hb2'⟩
    have hb2 : Below w.heap.size w w2 := hb1.trans (hb2'.mono hb1.size)
    have HBL := hide2 hb2
    have c4'' := (hb2.cell (p := ⟨p, 4, none⟩) hp).trans c4
    clear hb1 hb2'
    go_wp2
    rw [← hsn]
    have HSA' := HSA
    go_loopw [9] (fun i wr => ∃ m : Nat, m ≤ R.marks.length ∧ i = .int .i64 ((m : Int) - 1) ∧ Hid (R.byte addr = Ref.byteTo R.marks addr sn m) ∧ Below w.heap.size w wr) (fun i _ => (intOf i + 1).toNat)
    case atStart => exact ⟨_, Nat.le_refl _, rfl, HSA.out, HBL.out⟩
    case round =>
      obtain ⟨m, hm, rfl, hg, hb⟩ := hrel
      cases m with
      | zero =>
        go_wp2
        go_ret
        exact ⟨ret_int hg.out.symm, hb⟩
      | succ i =>
        obtain ⟨g, rfl, hgl, hcell, hfr⟩ := HM.out (by omega)
        have e1 : ((i + 1 : Nat) : Int) - 1 = (i : Int) := by omega
        rw [e1]
        have hc : ∀ j u, (R.marks.flatMap mkCells)[j]? = some u → wr.cell? ⟨g, j, none⟩ = some u := fun j u hu => by rw [hb.cell (p := ⟨g, j, none⟩) hgl]; exact hcell j u hu
        obtain ⟨d0, d1, d2⟩ := mk_cells hc i (by omega)
        have c4' : wr.cell? ⟨p, 4, none⟩ = some (.slice (some ⟨g, 0, none⟩) R.marks.length capm) := by rw [hb.cell (p := ⟨p, 4, none⟩) hp]; exact c4
        have hst : Hid (Ref.byteTo R.marks addr sn (i + 1) = if (R.marks.getD i mkNo).1 = addr ∧ sn ≤ (R.marks.getD i mkNo).2.2 then (R.marks.getD i mkNo).2.1 else Ref.byteTo R.marks addr sn i) := rfl
        generalize R.marks.getD i mkNo = mk at *
        obtain ⟨m1, m2, m3⟩ := mk
        clear hcell hfr hc HM c4 e1 HC HR
        by_cases h1 : m1 = addr
        · have h1b : (m1 == addr) = true := by simp [h1]
          by_cases h2 : sn ≤ m3
          · have HF : Hid (R.byte addr = m2) := hg.out.trans (hst.out.trans (if_pos ⟨h1, h2⟩))
            clear h1 hst hg
            go_wp2
            go_ret
            exact ⟨ret_int HF.out.symm, hb.alloc hb.size _⟩
          · have HF : Hid (R.byte addr = Ref.byteTo R.marks addr sn i) := hg.out.trans (hst.out.trans (if_neg (fun x => h2 x.2)))
            clear h1 hst hg
            go_wp2
            go_roundw
            case rel => exact ⟨i, by omega, rfl, HF.out, hb.alloc hb.size _⟩
            case measure => simp [intOf]
        · have h1b : (m1 == addr) = false := by rw [beq_eq_false_iff_ne]; exact h1
          have HF : Hid (R.byte addr = Ref.byteTo R.marks addr sn i) := hg.out.trans (hst.out.trans (if_neg (fun x => h1 x.1)))
          clear h1 hst hg
          go_wp2
          go_roundw
          case rel => exact ⟨i, by omega, rfl, HF.out, hb.alloc hb.size _⟩
          case measure => simp [intOf]
end Go.Proofs.Ytjikemhmnkckcaa
