import Derived.Test.YtjikemhmnkckcabGreatJ2
import Derived.Deep.RegionHeld3
import Derived.Deep.AppendLies
import Derived.Deep.DrawnRows
import Derived.Deep.RegionLaw
import Derived.WalkKit
import Derived.WalkSpells
namespace Go.Proofs.YtjikemhmnkckcabGreat
open Go.RowKit

theorem ret_ints {a b c d : Int} (h : a = c) (h' : b = d) : Ending.returned (.tuple #[.int .i64 a, .int .i64 b]) = .returned (.tuple #[.int .i64 c, .int .i64 d]) := by rw [h, h']

/-- the boxed configuration's cells -/
structure CBox (w : World) (b : Nat) (st rest : Int) (a : Option Addr) (n cap : Nat) : Prop where
  lt : b < w.heap.size
  c0 : w.cell? ⟨b, 0, none⟩ = some (.int .i64 st)
  c1 : w.cell? ⟨b, 1, none⟩ = some (.int .i64 rest)
  c2 : w.cell? ⟨b, 2, none⟩ = some (.slice a n cap)
theorem CBox.alloc (w : World) (st rest : Int) (a : Option Addr) (n cap : Nat) (t : TypeId) : CBox (w.alloc (.cells #[.int .i64 st, .int .i64 rest, .slice a n cap] t)) w.heap.size st rest a n cap :=
  ⟨by simp, by simp, by simp, by simp⟩
theorem CBox.below {w w' : World} {b : Nat} {st rest : Int} {a : Option Addr} {n cap : Nat} (h : CBox w b st rest a n cap) {B : Nat} (hb : Below B w w') (hB : b < B) : CBox w' b st rest a n cap :=
  ⟨Nat.lt_of_lt_of_le h.lt hb.size, (hb.cell (p := ⟨b, 0, none⟩) hB).trans h.c0, (hb.cell (p := ⟨b, 1, none⟩) hB).trans h.c1, (hb.cell (p := ⟨b, 2, none⟩) hB).trans h.c2⟩

set_option maxHeartbeats 1000000 in
theorem slot_any (st rest : Int) (a : Option Addr) (cap : Nat) (cls : List (Int × Int)) (addr : Int) (w : World) (hv : Cf.Valid st rest cls) (h : CRow w a cap cls) :
    Calls Tryz.prog 93 #[.agg #[.int .i64 st, .int .i64 rest, .slice a cls.length cap], .int .i64 addr] w fun e w' => e = .returned (.tuple #[.int .i64 (Cf.slot st cls addr).1, .int .i64 (Cf.slot st cls addr).2]) ∧ Below w.heap.size w w' := by
  have HH : Hid (CRow w a cap cls) := h
  obtain ⟨g, off, rfl, hgl, hcell⟩ := h.cells hv.n0
  have hlen := h.len
  have hcap := h.cap
  have b0 := hv.st0
  have b1 := hv.st1
  have n1 := hv.n1
  unfold maxLen at hcap
  have HV : Hid (Cf.Valid st rest cls) := hv
  have HC : Hid (∀ i, i < cls.length → w.cell? ⟨g, off + i * 2, none⟩ = some (.int .i64 (Cf.gr cls i)) ∧ w.cell? ⟨g, off + i * 2 + 1, none⟩ = some (.int .i64 (Cf.sl cls i))) := hcell
  clear hv h hcell
  go_enter Tryz.func93, Tryz.ntmps93
  go_wp2
  go_loopw [6] (fun i wr => ∃ m f : Nat, m + f = cls.length ∧ i = .int .i64 (m : Int) ∧ Hid (Cf.slot st cls addr = Cf.slotFrom st cls addr f m) ∧ Below w.heap.size w wr ∧ CBox wr w.heap.size st rest (some ⟨g, off, none⟩) cls.length cap) (fun i _ => cls.length - (intOf i).toNat)
  case atStart => exact ⟨0, cls.length, by omega, rfl, rfl, (Below.refl _ _).alloc (Nat.le_refl _) _, CBox.alloc _ _ _ _ _ _ _⟩
  case round =>
    obtain ⟨m, f, hm, rfl, hs, hb, cc⟩ := hrel
    have cc2 := cc.c2
    cases f with
    | zero =>
      have hm' : ¬ (m : Int) < cls.length := by omega
      clear hm
      go_wp2
      go_ret2
      exact ⟨by rw [hs.out]; rfl, hb⟩
    | succ f =>
      have hlt : m < cls.length := by omega
      have HM : Hid (m + (f + 1) = cls.length) := hm
      clear hm
      go_wp2
      go_loopw [7] (fun i wr2 => ∃ n e : Nat, n + e = (Cf.sl cls m).toNat ∧ i = .int .i64 (n : Int) ∧ Hid (Cf.slotIn st cls addr m = Ref.firstFrom (Cf.inS st cls addr m) e n) ∧ Below w.heap.size w wr2 ∧ CBox wr2 w.heap.size st rest (some ⟨g, off, none⟩) cls.length cap) (fun i _ => (Cf.sl cls m).toNat - (intOf i).toNat)
      case atStart => exact ⟨0, (Cf.sl cls m).toNat, by omega, rfl, rfl, hb, cc⟩
      case round =>
        obtain ⟨n, e, hne, rfl, hs2, hb2, ccc⟩ := hrel
        clear cc cc2 hb
        obtain ⟨k0, k1, k2⟩ := (⟨ccc.c0, ccc.c1, ccc.c2⟩ : _ ∧ _ ∧ _)
        obtain ⟨d0, d1⟩ := HC.out m hlt
        have d0' := (hb2.cell (p := ⟨g, off + m * 2, none⟩) hgl).trans d0
        have d1' := (hb2.cell (p := ⟨g, off + m * 2 + 1, none⟩) hgl).trans d1
        have s0 := HV.out.s0 m hlt
        have s1 := HV.out.s1 m hlt
        have g0 := HV.out.g0 m hlt
        have g1 := HV.out.g1 m hlt
        clear d0 d1
        cases e with
        | zero =>
          have hn' : ¬ (n : Int) < Cf.sl cls m := by omega
          have hsl : Hid (Cf.slotFrom st cls addr (f + 1) m = Cf.slotFrom st cls addr f (m + 1)) := by
            show (if 0 ≤ Cf.slotIn st cls addr m then _ else _) = _
            rw [if_neg (by rw [hs2.out]; simp [Ref.firstFrom])]
          clear hne
          generalize Cf.sl cls m = y at *
          generalize Cf.gr cls m = x at *
          go_wp2
          go_roundw
          case rel => exact ⟨m + 1, f, by have := HM.out; omega, by go_num, hs.out.trans hsl.out, hb2, ccc⟩
          case measure => simp [intOf]; omega
        | succ e =>
          have hn' : (n : Int) < Cf.sl cls m := by omega
          have HN : Hid (n + (e + 1) = (Cf.sl cls m).toNat) := hne
          have bb := Cf.begin_bd HV.out m hlt n (by omega) (by omega)
          have hst : Hid (Ref.firstFrom (Cf.inS st cls addr m) (e + 1) n = if Cf.inS st cls addr m n then (n : Int) else Ref.firstFrom (Cf.inS st cls addr m) e (n + 1)) := rfl
          have hin : Hid (Cf.inS st cls addr m n = (decide (Cf.begin_ st cls m n ≤ addr) && decide (addr < Cf.begin_ st cls m n + 16 * Cf.gr cls m))) := rfl
          clear hne
          by_cases hi : Cf.begin_ st cls m n ≤ addr ∧ addr < Cf.begin_ st cls m n + 16 * Cf.gr cls m
          · have hfin : Hid (Cf.slot st cls addr = ((m : Int), (n : Int))) := by
              have e1 : Cf.slotIn st cls addr m = n := by rw [hs2.out, hst.out, if_pos (by rw [hin.out]; simp [hi])]
              show _ = _
              rw [hs.out]
              show (if 0 ≤ Cf.slotIn st cls addr m then _ else _) = _
              rw [e1, if_pos (by omega)]
            obtain ⟨i1, i2⟩ := hi
            go_wp2_with (go_at_call 89; refine (begin_any st rest _ cap cls _ _ _ HV.out (HH.out.below hb2) (by omega) (by omega) (by omega) (by omega)).mono ?_; rw [Int.toNat_natCast]; rintro e1 w1 ⟨rfl, hb3⟩; have q2 := (hb3.cell (p := ⟨w.heap.size, 2, none⟩) ccc.lt).trans k2; have q0 := (hb3.cell (p := ⟨g, off + m * 2, none⟩) (Nat.lt_of_lt_of_le hgl hb2.size)).trans d0')
            go_ret2
            exact ⟨by rw [hfin.out]; rfl, hb2.trans (hb3.mono hb2.size)⟩
          · have hfin : Hid (Cf.slotIn st cls addr m = Ref.firstFrom (Cf.inS st cls addr m) e (n + 1)) := by
              show _ = _
              rw [hs2.out, hst.out, if_neg (by rw [hin.out]; simpa using hi)]
            go_wp2_with (go_at_call 89; refine (begin_any st rest _ cap cls _ _ _ HV.out (HH.out.below hb2) (by omega) (by omega) (by omega) (by omega)).mono ?_; rw [Int.toNat_natCast]; rintro e1 w1 ⟨rfl, hb3⟩; have q2 := (hb3.cell (p := ⟨w.heap.size, 2, none⟩) ccc.lt).trans k2; have q0 := (hb3.cell (p := ⟨g, off + m * 2, none⟩) (Nat.lt_of_lt_of_le hgl hb2.size)).trans d0')
            all_goals
              go_roundw
              case rel => exact ⟨n + 1, e, by have := HN.out; omega, by go_num, hfin, hb2.trans (hb3.mono hb2.size), ccc.below hb3 ccc.lt⟩
              case measure => simp [intOf]; omega
end Go.Proofs.YtjikemhmnkckcabGreat
namespace Go.Proofs.YtjikemhmnkckcabGreat
open Go.RowKit

/-- what the document's heap keeps: a valid configuration, and small sizes -/
structure ROk (R : RSt) : Prop where
  conf : Cf.Valid R.st R.rest R.cls
  size0 : ∀ i, 0 ≤ (R.log.getD i Ref.Ev.no).size
  size1 : ∀ i, (R.log.getD i Ref.Ev.no).size ≤ 8

set_option maxHeartbeats 1000000 in
theorem rtag_any (p : Nat) (vc vl vm : Value) (R : RSt) (addr : Int) (w : World) (h : RRep w p vc vl vm R) (ho : ROk R) :
    Calls Tryz.prog 92 #[.pointer (some ⟨p, 0, none⟩), .int .i64 addr] w fun e w' => e = .returned (.int .i64 (Cf.tag R.st R.cls R.log addr)) ∧ Below w.heap.size w w' := by
  have HR : Hid (RRep w p vc vl vm R) := h
  have HO : Hid (ROk R) := ho
  have hp := h.blk.lt
  have c0 := h.blk.cell (j := 0) rfl
  have c1 := h.blk.cell (j := 1) rfl
  have c2 := h.blk.cell (j := 2) rfl
  have c3 := h.blk.cell (j := 3) rfl
  have b0 := ho.conf.st0
  have b1 := ho.conf.st1
  obtain ⟨a, cap, rfl, hcr⟩ := CRow.of_row h.cls
  obtain ⟨al, capl, rfl, hcapl, hmaxl, hrow⟩ := row_open h.log
  unfold maxLen at hmaxl
  have HC : Hid (CRow w a cap R.cls) := hcr
  have HL : Hid (0 < R.log.length → ∃ g, al = some ⟨g, 0, none⟩ ∧ g < w.heap.size ∧ (∀ j u, (R.log.flatMap evCells)[j]? = some u → w.cell? ⟨g, j, none⟩ = some u) ∧ (∀ j, w.frozen? ⟨g, j, none⟩ = false)) := hrow
  have htag : Hid (Cf.tag R.st R.cls R.log addr = if 16 ≤ addr ∧ addr < 16 * (1 + R.st) then 0
    else if (Cf.slot R.st R.cls addr).1 < 0 then -1
    else if Ref.state R.log (Cf.slot R.st R.cls addr).1 (Cf.slot R.st R.cls addr).2 ≠ 3 then 15
    else if Cf.begin_ R.st R.cls (Cf.slot R.st R.cls addr).1.toNat (Cf.slot R.st R.cls addr).2 + 16 * (R.log.getD (Ref.given R.log (Cf.slot R.st R.cls addr).1 (Cf.slot R.st R.cls addr).2).toNat Ref.Ev.no).size ≤ addr then 15
    else (R.log.getD (Ref.given R.log (Cf.slot R.st R.cls addr).1 (Cf.slot R.st R.cls addr).2).toNat Ref.Ev.no).tag) := rfl
  clear h ho hcr hrow
  by_cases hs : 16 ≤ addr ∧ addr < 16 * (1 + R.st)
  · have hfin : Hid (Cf.tag R.st R.cls R.log addr = 0) := by show _ = _; rw [htag.out, if_pos hs]
    clear htag
    obtain ⟨s0, s1⟩ := hs
    go_enter Tryz.func92, Tryz.ntmps92
    go_wp2
    go_ret
    exact ⟨ret_int hfin.out.symm, Below.refl _ _⟩
  · have htag2 : Hid (Cf.tag R.st R.cls R.log addr = if (Cf.slot R.st R.cls addr).1 < 0 then -1
      else if Ref.state R.log (Cf.slot R.st R.cls addr).1 (Cf.slot R.st R.cls addr).2 ≠ 3 then 15
      else if Cf.begin_ R.st R.cls (Cf.slot R.st R.cls addr).1.toNat (Cf.slot R.st R.cls addr).2 + 16 * (R.log.getD (Ref.given R.log (Cf.slot R.st R.cls addr).1 (Cf.slot R.st R.cls addr).2).toNat Ref.Ev.no).size ≤ addr then 15
      else (R.log.getD (Ref.given R.log (Cf.slot R.st R.cls addr).1 (Cf.slot R.st R.cls addr).2).toNat Ref.Ev.no).tag) := by show _ = _; rw [htag.out, if_neg hs]
    clear htag
    rcases Cf.slot_bd R.st R.cls addr with hsl | ⟨k, s, hsl, hk, hs2, _⟩
    · have hfin : Hid (Cf.tag R.st R.cls R.log addr = -1) := by show _ = _; rw [htag2.out, hsl]; rfl
      have HS : Hid (Cf.slot R.st R.cls addr = (-1, -1)) := hsl
      clear htag2 hsl
      go_enter Tryz.func92, Tryz.ntmps92
      go_wp2_with (go_at_call 93; refine (slot_any R.st R.rest _ cap R.cls _ _ HO.out.conf HC.out).mono ?_; rw [HS.out]; rintro e1 w1 ⟨rfl, hb1⟩)
      all_goals
        go_ret
        exact ⟨ret_int hfin.out.symm, hb1⟩
    · rw [hsl] at htag2
      have htag3 : Hid (Cf.tag R.st R.cls R.log addr = if Ref.state R.log k s ≠ 3 then 15
        else if Cf.begin_ R.st R.cls k s + 16 * (R.log.getD (Ref.given R.log k s).toNat Ref.Ev.no).size ≤ addr then 15
        else (R.log.getD (Ref.given R.log k s).toNat Ref.Ev.no).tag) := by show _ = _; rw [htag2.out, if_neg (by simp)]; rfl
      have HS : Hid (Cf.slot R.st R.cls addr = ((k : Int), (s : Int))) := hsl
      have sl1 := HO.out.conf.s1 k hk
      clear htag2 hsl
      by_cases hst : Ref.state R.log k s = 3
      · have htag4 : Hid (Cf.tag R.st R.cls R.log addr = if Cf.begin_ R.st R.cls k s + 16 * (R.log.getD (Ref.given R.log k s).toNat Ref.Ev.no).size ≤ addr then 15
          else (R.log.getD (Ref.given R.log k s).toNat Ref.Ev.no).tag) := by show _ = _; rw [htag3.out, if_neg (by simp [hst])]
        have hgv : 0 ≤ Ref.given R.log k s := by
          unfold Ref.state at hst; split at hst
          · omega
          · omega
        have g2 := Ref.given_hi R.log k s
        have z0 := HO.out.size0 (Ref.given R.log k s).toNat
        have z1 := HO.out.size1 (Ref.given R.log k s).toNat
        have bb := Cf.begin_bd HO.out.conf k hk s (by omega) (by omega)
        obtain ⟨g, rfl, hgl, hcell, _⟩ := HL.out (by omega)
        obtain ⟨_, _, _, d3, d4, _⟩ := ev_cells hcell (Ref.given R.log k s).toNat (by omega)
        have HST : Hid (Ref.state R.log k s = 3) := hst
        have hq : Hid (R.log.getD (Ref.given R.log k s).toNat Ref.Ev.no = R.log.getD (Ref.given R.log k s).toNat Ref.Ev.no) := rfl
        generalize R.log.getD (Ref.given R.log k s).toNat Ref.Ev.no = ev at *
        clear htag3 hst hcell hq HL
        by_cases hbig : Cf.begin_ R.st R.cls k s + 16 * ev.size ≤ addr
        all_goals
          go_enter Tryz.func92, Tryz.ntmps92
          go_wp2_with (first
            | (go_at_call 93; refine (slot_any R.st R.rest _ cap R.cls _ _ HO.out.conf HC.out).mono ?_; rw [HS.out]; rintro e1 w1 ⟨rfl, hb1⟩)
            | (go_at_call 91; refine (state_any _ _ _ _ _ _ _ _ (HR.out.below hb1)).mono ?_; rw [HST.out]; rintro e1 w2 ⟨rfl, hb2'⟩; have hb2 := hb1.trans (hb2'.mono hb1.size); clear hb2')
            | (go_at_call 62; refine (given_any _ _ _ _ _ _ _ _ (HR.out.below hb2)).mono ?_; rintro e1 w3 ⟨rfl, hb3'⟩; have hb3 := hb2.trans (hb3'.mono hb2.size); clear hb3'; have q0 := (hb3.cell (p := ⟨p, 0, none⟩) hp).trans c0; have q1 := (hb3.cell (p := ⟨p, 1, none⟩) hp).trans c1; have q2 := (hb3.cell (p := ⟨p, 2, none⟩) hp).trans c2)
            | (go_at_call 89; refine (begin_any R.st R.rest _ cap R.cls _ _ _ HO.out.conf (HC.out.below hb3) (by omega) (by omega) (by omega) (by omega)).mono ?_; rw [Int.toNat_natCast]; rintro e1 w4 ⟨rfl, hb4'⟩; have hb4 := hb3.trans (hb4'.mono hb3.size); clear hb4'; have q3 := (hb4.cell (p := ⟨p, 3, none⟩) hp).trans c3; have r3 := (hb4.cell (p := ⟨g, (Ref.given R.log k s).toNat * 6 + 3, none⟩) hgl).trans d3; have r4 := (hb4.cell (p := ⟨g, (Ref.given R.log k s).toNat * 6 + 4, none⟩) hgl).trans d4))
          all_goals
            go_ret
            first
              | exact ⟨ret_int (by rw [htag4.out, if_pos hbig]), hb4⟩
              | exact ⟨ret_int (by rw [htag4.out, if_neg (by omega)]), hb4⟩
      · have hfin : Hid (Cf.tag R.st R.cls R.log addr = 15) := by show _ = _; rw [htag3.out, if_pos hst]
        have hne : (Ref.state R.log k s != 3) = true := by rw [bne_iff_ne]; exact hst
        clear htag3 hst HL
        go_enter Tryz.func92, Tryz.ntmps92
        go_wp2_with (first
          | (go_at_call 93; refine (slot_any R.st R.rest _ cap R.cls _ _ HO.out.conf HC.out).mono ?_; rw [HS.out]; rintro e1 w1 ⟨rfl, hb1⟩)
          | (go_at_call 91; refine (state_any _ _ _ _ _ _ _ _ (HR.out.below hb1)).mono ?_; rintro e1 w2 ⟨rfl, hb2'⟩; have hb2 := hb1.trans (hb2'.mono hb1.size); clear hb2'))
        all_goals
          go_ret
          exact ⟨ret_int hfin.out.symm, hb2⟩
end Go.Proofs.YtjikemhmnkckcabGreat
namespace Go.Proofs.YtjikemhmnkckcabGreat
open Go.RowKit
attribute [local go_sem ↓] Go.wp_at_zero Go.wp_at_succ

theorem info_cls : (Tryz.prog.info? 84).map (fun i => (i.zero, i.size, i.bytes)) = some (some (.agg #[.int .i64 0, .int .i64 0]), 2, 16) := by kernel_rfl

theorem ret_ptr {a b : Option Addr} {c d : Int} (h : a = b) (h' : c = d) : Ending.returned (.tuple #[.pointer a, .int .i64 c]) = .returned (.tuple #[.pointer b, .int .i64 d]) := by rw [h, h']

set_option maxRecDepth 100000 in
set_option maxHeartbeats 1000000 in
theorem rnew_no (st rest : Int) (a : Option Addr) (cap : Nat) (cls : List (Int × Int)) (w : World) (h : CRow w a cap cls) (hv : Cf.validB st rest cls = false) :
    Calls Tryz.prog 18 #[.agg #[.int .i64 st, .int .i64 rest, .slice a cls.length cap]] w fun e w' => e = .returned (.tuple #[.pointer none, .int .i64 1]) ∧ Below w.heap.size w w' := by
  have HC : Hid (CRow w a cap cls) := h
  have HV : Hid (Cf.validB st rest cls = false) := hv
  clear h hv
  go_enter Tryz.func18, Tryz.ntmps18
  go_wp2_with (go_at_call 32; refine (valid_any st rest _ cap cls _ (HC.out.below ((Below.refl _ _).alloc (Nat.le_refl _) _))).mono ?_; rw [HV.out]; rintro e1 w1 ⟨rfl, hb1⟩)
  go_ret2
  exact ⟨rfl, ((Below.refl _ _).alloc (Nat.le_refl _) _).trans (hb1.mono (by simp))⟩

/-- the document's New, within its loop -/
structure NewRel (w : World) (st rest : Int) (cls : List (Int × Int)) (pb ob : Nat) (sv : Value) (m : Nat) (v : Value) (wr : World) : Prop where
  below : Below w.heap.size w wr
  pb0 : w.heap.size ≤ pb
  pbc : wr.cell? ⟨pb, 2, none⟩ = some sv
  pbl : pb < wr.heap.size
  ob0 : w.heap.size ≤ ob
  ne : pb ≠ ob
  obk : Blk wr ob 36 [.int .i64 st, .int .i64 rest, v]
  row : wr.ownsRow 0 84 2 v m ((cls.take m).flatMap clsCells)
  vlo : ∀ g, v.ownBlock = some g → w.heap.size ≤ g ∧ g ≠ pb ∧ g ≠ ob

theorem take_more {α β : Type} (f : α → List β) (l : List α) (d : α) (m : Nat) (h : m < l.length) : (l.take (m + 1)).flatMap f = (l.take m).flatMap f ++ f (l.getD m d) := by
  rw [List.take_succ_eq_append_getElem h, List.flatMap_append]
  simp [List.getD_eq_getElem?_getD, List.getElem?_eq_getElem h]

theorem NewRel.step {w : World} {st rest : Int} {cls : List (Int × Int)} {pb ob : Nat} {sv : Value} {m : Nat} {v : Value} {wr : World} (hr : NewRel w st rest cls pb ob sv m v wr) (hm : m < cls.length)
    {x y : Int} (hx : Cf.gr cls m = x ∧ Cf.sl cls m = y) {cs : Array Value} {t : TypeId} {w2 : World} {gg cap2 : Nat}
    (hown1 : w2.ownsRow 0 84 2 (.slice (some ⟨gg, 0, none⟩) (m + 1) cap2) (m + 1) ((cls.take m).flatMap clsCells ++ [.int .i64 x, .int .i64 y]))
    (hgrow : ((wr.alloc (.cells cs t)).drew).grownBy w2 v.ownBlock) (hat : v.ownBlock = some gg ∨ gg = wr.heap.size + 1) :
    NewRel w st rest cls pb ob sv (m + 1) (.slice (some ⟨gg, 0, none⟩) (m + 1) cap2) (w2.setCell ⟨ob, 2, none⟩ (.slice (some ⟨gg, 0, none⟩) (m + 1) cap2)) := by
  have hpl := hr.pbl
  have hol := hr.obk.lt
  have hsz := hr.below.size
  have hp0 := hr.pb0
  have ho0 := hr.ob0
  have hne := hr.ne
  have hggb : w.heap.size ≤ gg ∧ gg ≠ pb ∧ gg ≠ ob := by
    rcases hat with h | h
    · exact hr.vlo gg h
    · omega
  have hsz2 := hgrow.size
  rw [World.size_drew, World.size_alloc] at hsz2
  have hpv : some pb ≠ v.ownBlock := fun e => (hr.vlo pb e.symm).2.1 rfl
  have hov : some ob ≠ v.ownBlock := fun e => (hr.vlo ob e.symm).2.2 rfl
  refine ⟨?_, hp0, ?_, ?_, ho0, hne, ?_, ?_, ?_⟩
  · refine (((hr.below.alloc (by omega) _).drew).grown hgrow (by rw [World.size_drew, World.size_alloc]; omega) (fun k hk => (hr.vlo k hk).1)).setCell ho0 _
  · rw [World.cell?_setCell_other _ _ _ _ (by intro e; injection e with e _ _; omega), hgrow.cell_far _ (by simp; omega) hpv, World.cell?_drew, World.cell?_alloc_lt _ _ _ hpl]
    exact hr.pbc
  · rw [World.size_setCell]; omega
  · have hb : Blk w2 ob 36 [.int .i64 st, .int .i64 rest, v] := by
      have e1 := hgrow.block ob (by simp; omega) hov
      have e2 : (wr.alloc (.cells cs t)).drew.heap[ob]? = wr.heap[ob]? := Below.heap_alloc wr _ ob hol
      exact (e1.trans e2).trans hr.obk
    exact hb.setCell 2 _
  · refine row_kept ?_ (fun g hg => Below.heap_setCell w2 _ _ g (by simp [Value.ownBlock] at hg; show g ≠ ob; omega))
    have e : (cls.take (m + 1)).flatMap clsCells = (cls.take m).flatMap clsCells ++ [.int .i64 x, .int .i64 y] := by
      rw [take_more clsCells cls (0, 0) m hm]
      show _ ++ [Value.int .i64 (Cf.gr cls m), Value.int .i64 (Cf.sl cls m)] = _
      rw [hx.1, hx.2]
    rw [e]; exact hown1
  · intro g hg
    simp [Value.ownBlock] at hg
    subst hg
    exact hggb

set_option maxRecDepth 100000 in
set_option maxHeartbeats 3200000 in
theorem rnew_yes (st rest : Int) (a : Option Addr) (cap : Nat) (cls : List (Int × Int)) (w : World) (h : CRow w a cap cls) (hv : Cf.Valid st rest cls) :
    Calls Tryz.prog 18 #[.agg #[.int .i64 st, .int .i64 rest, .slice a cls.length cap]] w fun e w' => ∃ p vc, e = .returned (.tuple #[.pointer (some ⟨p, 0, none⟩), .int .i64 0]) ∧
      RRep w' p vc (.slice none 0 0) (.slice none 0 0) ⟨st, rest, cls, [], []⟩ ∧ Below w.heap.size w w' ∧ w.heap.size ≤ p ∧ ∀ g, vc.ownBlock = some g → w.heap.size ≤ g := by
  have HC : Hid (CRow w a cap cls) := h
  have HV : Hid (Cf.Valid st rest cls) := hv
  have HB : Hid (Cf.validB st rest cls = true) := Cf.validB_of hv
  obtain ⟨g, off, rfl, hgl, hcell⟩ := h.cells hv.n0
  obtain ⟨i0, hi0, hz0, hz1, hz2⟩ := info_parts info_cls
  have hlen := h.len
  have hcap := h.cap
  have n1 := hv.n1
  unfold maxLen at hcap
  have HCL : Hid (∀ i, i < cls.length → w.cell? ⟨g, off + i * 2, none⟩ = some (.int .i64 (Cf.gr cls i)) ∧ w.cell? ⟨g, off + i * 2 + 1, none⟩ = some (.int .i64 (Cf.sl cls i))) := hcell
  clear h hv hcell
  go_enter Tryz.func18, Tryz.ntmps18
  go_wp2_with (go_at_call 32; refine (valid_any st rest _ cap cls _ (HC.out.below ((Below.refl _ _).alloc (Nat.le_refl _) _))).mono ?_; rw [HB.out]; rintro e1 w1 ⟨rfl, hb1⟩; have q0 := (hb1.cell (p := ⟨w.heap.size, 0, none⟩) (by simp)).trans (World.cell?_alloc_new _ _ _ _); have q1 := (hb1.cell (p := ⟨w.heap.size, 1, none⟩) (by simp)).trans (World.cell?_alloc_new _ _ _ _); have q2 := (hb1.cell (p := ⟨w.heap.size, 2, none⟩) (by simp)).trans (World.cell?_alloc_new _ _ _ _))
  have hs1 := hb1.size
  rw [World.size_alloc] at hs1
  go_loopw [6] (fun i wr => ∃ (m : Nat) (v : Value), m ≤ cls.length ∧ i = .int .i64 (m : Int) ∧ NewRel w st rest cls w.heap.size w1.heap.size (.slice (some ⟨g, off, none⟩) cls.length cap) m v wr) (fun i _ => cls.length - (intOf i).toNat)
  case atStart =>
    refine ⟨0, .slice none 0 0, by omega, rfl, ⟨(((Below.refl _ _).alloc (Nat.le_refl _) _).trans (hb1.mono (by simp))).alloc (by omega) _, Nat.le_refl _, ?_, ?_, by omega, by omega, Blk.alloc _ _ _, ?_, ?_⟩⟩
    · rw [World.cell?_alloc_lt _ _ _ (by show w.heap.size < _; omega)]; exact q2
    · rw [World.size_alloc]; omega
    · simpa using World.ownsRow_nil _ _ _ _
    · intro g h; cases h
  case round =>
    obtain ⟨m, v, hm, rfl, hr⟩ := hrel
    have r2 := hr.pbc
    have HRR : Hid (NewRel w st rest cls w.heap.size w1.heap.size (.slice (some ⟨g, off, none⟩) cls.length cap) m v wr) := hr
    by_cases hlt : m < cls.length
    · obtain ⟨d0, d1⟩ := HCL.out m hlt
      have d0' := (hr.below.cell (p := ⟨g, off + m * 2, none⟩) hgl).trans d0
      have d1' := (hr.below.cell (p := ⟨g, off + m * 2 + 1, none⟩) hgl).trans d1
      have o2 := hr.obk.cell (j := 2) rfl
      have of2 := hr.obk.frozen 2
      have obl := hr.obk.lt
      have pbl := hr.pbl
      have hsz := hr.below.size
      have x0 : (0 : Int) ≤ (m : Int) := by omega
      have x1 : (m : Int) < (cls.length : Int) := by omega
      have hrow : Hid (wr.ownsRow 0 84 2 v m ((cls.take m).flatMap clsCells)) := hr.row
      have vlo : Hid (∀ g, v.ownBlock = some g → w.heap.size ≤ g ∧ g ≠ w.heap.size ∧ g ≠ w1.heap.size) := hr.vlo
      generalize hgx : Cf.gr cls m = x at *
      generalize hsy : Cf.sl cls m = y at *
      have HX : Hid (Cf.gr cls m = x ∧ Cf.sl cls m = y) := ⟨hgx, hsy⟩
      clear d0 d1 hr hgx hsy q0 q1 q2
      go_wp2
      go_region_law ((refine step_append_lies _ (by rfl) _ _ _ (by rfl) 0 84 i0 _ 2 16 Tryz.underlying34 hi0 hz0 hz1 hz2 rfl (by omega) v m ((cls.take m).flatMap clsCells) (by rfl) ((hrow.out.alloc _).drew) ⟨wr.heap.size, 0, none⟩ 1 1 [.int .i64 x, .int .i64 y] (by rfl) (by rfl) (World.news_of_block (cs := #[.int .i64 x, .int .i64 y]) (t := 84) (fr := (0, 0)) (heap_alloc_new wr _)) (by simp [Value.oneCell']) (by omega) (by simp [maxLen]; omega) (by omega) (by simp) (wr.heap.size + 1) (by simp) ?_; intro gg cap2 w2 hown1 hgrow hat hlt2; have o2' : w2.cell? ⟨w1.heap.size, 2, none⟩ = some v := (by rw [hgrow.cell_far _ (by simp; omega) (fun e => (vlo.out _ e.symm).2.2 rfl), World.cell?_drew, World.cell?_alloc_lt _ _ _ obl]; exact o2); have of2' : w2.frozen? ⟨w1.heap.size, 2, none⟩ = false := (by rw [hgrow.frozen_far _ (by simp; omega) (fun e => (vlo.out _ e.symm).2.2 rfl), World.frozen?_drew, World.frozen?_alloc_old _ _ _ (by show w1.heap.size ≠ _; omega)]; exact of2)))
      all_goals
        go_wp2
        go_roundw
        case rel => exact ⟨m + 1, _, by omega, by go_num, HRR.out.step hlt HX.out hown1 hgrow hat⟩
        case measure => simp [intOf]; omega
    · obtain rfl : m = cls.length := by omega
      have o0 := hr.obk.cell (j := 0) rfl
      have o1 := hr.obk.cell (j := 1) rfl
      have o2 := hr.obk.cell (j := 2) rfl
      clear hr q0 q1 q2
      go_wp2
      go_ret2
      refine ⟨wr.heap.size, v, rfl, ?_, HRR.out.below.alloc HRR.out.below.size _, HRR.out.below.size, fun g hg => (HRR.out.vlo g hg).1⟩
      have hrw := HRR.out.row
      rw [List.take_length] at hrw
      refine ⟨Blk.alloc _ _ _, row_below hrw ((Below.refl _ _).alloc (Nat.le_refl _) _) (fun g hg => row_lt hrw hg), World.ownsRow_nil _ _ _ _, World.ownsRow_nil _ _ _ _, ?_, nofun, nofun, fun _ _ => nofun, fun _ _ => nofun, fun _ => nofun⟩
      intro e; have := row_lt hrw e; omega
end Go.Proofs.YtjikemhmnkckcabGreat
/- 'copy' of elements of several cells into a row that is known whole. -/
namespace Go.Proofs.YtjikemhmnkckcabGreat
open Go Go.RowKit

theorem run_copy_wide {P : Program} (w : World) (dT sT ty elem : TypeId) (size : Nat) (g dLen dCap : Nat) (a : Addr) (sLen sCap : Nat) (cur : Array Value) (t : TypeId) (cs : List Value)
    (hu : P.underlying dT = some (.slice elem)) (hs : (P.info? elem).map (·.size) = some size)
    (hg : w.heap[g]? = some (.cells cur t (0, 0))) (hd : sLen ≤ dLen) (hn : cs.length = sLen * size)
    (hsrc : ∀ j v, cs[j]? = some v → w.cell? (a.add j) = some v) (hfit : cs.length ≤ cur.size) (h1 : ∀ v ∈ cs, v.oneCell' = true) :
    (Builtin.copy_ #[dT, sT] ty #[.slice (some ⟨g, 0, none⟩) dLen dCap, .slice (some a) sLen sCap]).run P w =
      .ok (goInt sLen) (w.setRow g (cs ++ cur.toList.drop cs.length).toArray) := by
  have hl := run_loadCells_list (P := P) w a cs hsrc
  have hst := run_storeCells_at P g 0 t cs 0 cur w hg (by simpa using hfit) h1
  have hm : Nat.min sLen dLen = sLen := Nat.min_eq_left hd
  cases hq : P.info? elem with
  | none => simp [hq] at hs
  | some i =>
    have hi : i.size = size := by simpa [hq] using hs
    simp [Builtin.copy_, run_underlying hu, Builtin.lenOf, Builtin.firstCells, sizeOf, typeInfo, hq, hi, hm, ← hn, hl, hst]

theorem run_copy_empty {P : Program} (w : World) (dT sT ty elem : TypeId) (size : Nat) (d : Option Addr) (dLen dCap : Nat) (a : Option Addr) (sCap : Nat)
    (hu : P.underlying dT = some (.slice elem)) (hs : (P.info? elem).map (·.size) = some size) :
    (Builtin.copy_ #[dT, sT] ty #[.slice d dLen dCap, .slice a 0 sCap]).run P w = .ok (goInt 0) w := by
  cases hq : P.info? elem with
  | none => simp [hq] at hs
  | some i =>
    cases a <;> cases d <;> simp [Builtin.copy_, run_underlying hu, Builtin.lenOf, Builtin.firstCells, sizeOf, typeInfo, hq, storeCells, loadCells, loadCellsFrom]
end Go.Proofs.YtjikemhmnkckcabGreat
namespace Go.Proofs.YtjikemhmnkckcabGreat
open Go.RowKit
attribute [local go_sem ↓] Go.wp_at_zero Go.wp_at_succ

theorem add_lit (g off j : Nat) : (⟨g, off, none⟩ : Addr).add j = ⟨g, off + j, none⟩ := by unfold Addr.add; split <;> simp_all

/-- what the owner of the handed list holds: the classes and two more -/
def room4 : List Value := [.int .i64 77, .int .i64 77, .int .i64 77, .int .i64 77]

/-- the cells of a list of classes as the reader has them -/
theorem ccells_flat {w : World} {g off : Nat} {cls : List (Int × Int)} (hc : ∀ i, i < cls.length → w.cell? ⟨g, off + i * 2, none⟩ = some (.int .i64 (Cf.gr cls i)) ∧ w.cell? ⟨g, off + i * 2 + 1, none⟩ = some (.int .i64 (Cf.sl cls i))) :
    ∀ j v, (cls.flatMap clsCells)[j]? = some v → w.cell? ((⟨g, off, none⟩ : Addr).add j) = some v := by
  intro j v hv
  have hj : j < cls.length * 2 := by
    have := flat_len clsCells 2 (fun _ => rfl) cls
    rcases Nat.lt_or_ge j (cls.flatMap clsCells).length with h | h
    · omega
    · rw [List.getElem?_eq_none h] at hv; cases hv
  have e : j = j / 2 * 2 + j % 2 := by omega
  have hi : j / 2 < cls.length := by omega
  have hf := flat_get clsCells 2 (fun _ => rfl) cls (j / 2) (j % 2) (by omega)
  rw [← e, hv, List.getElem?_eq_getElem hi] at hf
  have hd := hc (j / 2) hi
  rw [add_lit]
  have hcl : cls[j / 2] = cls.getD (j / 2) (0, 0) := by simp [List.getD_eq_getElem?_getD, List.getElem?_eq_getElem hi]
  rw [hcl] at hf
  rcases (show j % 2 = 0 ∨ j % 2 = 1 by omega) with h | h
  · rw [h] at hf; simp only [Option.bind_some, clsCells] at hf
    rw [show off + j = off + j / 2 * 2 by omega, hd.1]
    simpa [Cf.gr] using hf.symm
  · rw [h] at hf; simp only [Option.bind_some, clsCells] at hf
    rw [show off + j = off + j / 2 * 2 + 1 by omega, hd.2]
    simpa [Cf.sl] using hf.symm

end Go.Proofs.YtjikemhmnkckcabGreat
