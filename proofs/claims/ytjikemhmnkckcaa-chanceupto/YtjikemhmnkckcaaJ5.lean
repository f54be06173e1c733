import Derived.Test.YtjikemhmnkckcaaJ4
namespace Go.Proofs.Ytjikemhmnkckcaa
open Go.RowKit

theorem ret_ints {a b c d : Int} (h : a = c) (h' : b = d) : Ending.returned (.tuple #[.int .i64 a, .int .i64 b]) = .returned (.tuple #[.int .i64 c, .int .i64 d]) := by rw [h, h']

/-- the boxed configuration's cells -/
structure CBox (w : World) (b : Nat) (st rest : Int) (a : Option Addr) (n cap : Nat) : Prop where
  lt : b < w.heap.size
  c0 : w.cell? ⟨b, 0, none⟩ = some (.int .i64 st)
  c1 : w.cell? ⟨b, 1, none⟩ = some (.int .i64 rest)
  c2 : w.cell? ⟨b, 2, none⟩ = some (.slice a n cap)
theorem CBox.alloc (w : World) (st rest : Int) (a : Option Addr) (n cap : Nat) (t : TypeId) : CBox (w.alloc (.cells #[.int .i64 st, .int .i64 rest, .slice a n cap] t)) w.heap.size st rest a n cap :=
  ⟨by simp, by simp, by simp, by simp⟩
theorem CBox.below {w w' : World} {b : Nat} {st rest : Int} {a : Option Addr} {n cap : Nat} (h : CBox w b st rest a n cap) {B : Nat} (hb : Below B w w') (hB : b < B) : CBox w' b st rest a n cap :=
  ⟨Nat.lt_of_lt_of_le h.lt hb.size, (hb.cell (p := ⟨b, 0, none⟩) hB).trans h.c0, (hb.cell (p := ⟨b, 1, none⟩) hB).trans h.c1, (hb.cell (p := ⟨b, 2, none⟩) hB).trans h.c2⟩

set_option maxHeartbeats 1000000 in
theorem slot_any (st rest : Int) (a : Option Addr) (cap : Nat) (cls : List (Int × Int)) (addr : Int) (w : World) (hv : Cf.Valid st rest cls) (h : CRow w a cap cls) :
    Calls Try.prog 44 #[.agg #[.int .i64 st, .int .i64 rest, .slice a cls.length cap], .int .i64 addr] w fun e w' => e = .returned (.tuple #[.int .i64 (Cf.slot st cls addr).1, .int .i64 (Cf.slot st cls addr).2]) ∧ Below w.heap.size w w' := by
  have HH : Hid (CRow w a cap cls) := h
  obtain ⟨g, off, rfl, hgl, hcell⟩ := h.cells hv.n0
  have hlen := h.len
  have hcap := h.cap
  have b0 := hv.st0
  have b1 := hv.st1
  have n1 := hv.n1
  unfold maxLen at hcap
  have HV : Hid (Cf.Valid st rest cls) := hv
  have HC : Hid (∀ i, i < cls.length → w.cell? ⟨g, off + i * 2, none⟩ = some (.int .i64 (Cf.gr cls i)) ∧ w.cell? ⟨g, off + i * 2 + 1, none⟩ = some (.int .i64 (Cf.sl cls i))) := hcell
  clear hv h hcell
  go_enter Try.func44, Try.ntmps44
  go_wp2
  go_loopw [6] (fun i wr => ∃ m f : Nat, m + f = cls.length ∧ i = .int .i64 (m : Int) ∧ Hid (Cf.slot st cls addr = Cf.slotFrom st cls addr f m) ∧ Below w.heap.size w wr ∧ CBox wr w.heap.size st rest (some ⟨g, off, none⟩) cls.length cap) (fun i _ => cls.length - (intOf i).toNat)
  case atStart => exact ⟨0, cls.length, by omega, rfl, rfl, (Below.refl _ _).alloc (Nat.le_refl _) _, CBox.alloc _ _ _ _ _ _ _⟩
  case round =>
    obtain ⟨m, f, hm, rfl, hs, hb, cc⟩ := hrel
    have cc2 := cc.c2
    cases f with
    | zero =>
      have hm' : ¬ (m : Int) < cls.length := by omega
      clear hm
      go_wp2
      go_ret2
      exact ⟨by rw [hs.out]; rfl, hb⟩
    | succ f =>
      have hlt : m < cls.length := by omega
      have HM : Hid (m + (f + 1) = cls.length) := hm
      clear hm
      go_wp2
      go_loopw [7] (fun i wr2 => ∃ n e : Nat, n + e = (Cf.sl cls m).toNat ∧ i = .int .i64 (n : Int) ∧ Hid (Cf.slotIn st cls addr m = Ref.firstFrom (Cf.inS st cls addr m) e n) ∧ Below w.heap.size w wr2 ∧ CBox wr2 w.heap.size st rest (some ⟨g, off, none⟩) cls.length cap) (fun i _ => (Cf.sl cls m).toNat - (intOf i).toNat)
      case atStart => exact ⟨0, (Cf.sl cls m).toNat, by omega, rfl, rfl, hb, cc⟩
      case round =>
        obtain ⟨n, e, hne, rfl, hs2, hb2, ccc⟩ := hrel
        clear cc cc2 hb
        obtain ⟨k0, k1, k2⟩ := (⟨ccc.c0, ccc.c1, ccc.c2⟩ : _ ∧ _ ∧ _)
        obtain ⟨d0, d1⟩ := HC.out m hlt
        have d0' := (hb2.cell (p := ⟨g, off + m * 2, none⟩) hgl).trans d0
        have d1' := (hb2.cell (p := ⟨g, off + m * 2 + 1, none⟩) hgl).trans d1
        have s0 := HV.out.s0 m hlt
        have s1 := HV.out.s1 m hlt
        have g0 := HV.out.g0 m hlt
        have g1 := HV.out.g1 m hlt
        clear d0 d1
        cases e with
        | zero =>
          have hn' : ¬ (n : Int) < Cf.sl cls m := by omega
          have hsl : Hid (Cf.slotFrom st cls addr (f + 1) m = Cf.slotFrom st cls addr f (m + 1)) := by
            show (if 0 ≤ Cf.slotIn st cls addr m then _ else _) = _
            rw [if_neg (by rw [hs2.out]; simp [Ref.firstFrom])]
          clear hne
          generalize Cf.sl cls m = y at *
          generalize Cf.gr cls m = x at *
          go_wp2
          go_roundw
          case rel => exact ⟨m + 1, f, by have := HM.out; omega, by go_num, hs.out.trans hsl.out, hb2, ccc⟩
          case measure => simp [intOf]; omega
        | succ e =>
          have hn' : (n : Int) < Cf.sl cls m := by omega
          have HN : Hid (n + (e + 1) = (Cf.sl cls m).toNat) := hne
          have bb := Cf.begin_bd HV.out m hlt n (by omega) (by omega)
          have hst : Hid (Ref.firstFrom (Cf.inS st cls addr m) (e + 1) n = if Cf.inS st cls addr m n then (n : Int) else Ref.firstFrom (Cf.inS st cls addr m) e (n + 1)) := rfl
          have hin : Hid (Cf.inS st cls addr m n = (decide (Cf.begin_ st cls m n ≤ addr) && decide (addr < Cf.begin_ st cls m n + 16 * Cf.gr cls m))) := rfl
          clear hne
          by_cases hi : Cf.begin_ st cls m n ≤ addr ∧ addr < Cf.begin_ st cls m n + 16 * Cf.gr cls m
          · have hfin : Hid (Cf.slot st cls addr = ((m : Int), (n : Int))) := by
              have e1 : Cf.slotIn st cls addr m = n := by rw [hs2.out, hst.out, if_pos (by rw [hin.out]; simp [hi])]
              show _ = _
              rw [hs.out]
              show (if 0 ≤ Cf.slotIn st cls addr m then _ else _) = _
              rw [e1, if_pos (by omega)]
            obtain ⟨i1, i2⟩ := hi
            go_wp2_with (go_at_call 47; refine (begin_any st rest _ cap cls _ _ _ HV.out (HH.out.below hb2) (by omega) (by omega) (by omega) (by omega)).mono ?_; rw [Int.toNat_natCast]; rintro e1 w1 ⟨rfl, hb3⟩; have q2 := (hb3.cell (p := ⟨w.heap.size, 2, none⟩) ccc.lt).trans k2; have q0 := (hb3.cell (p := ⟨g, off + m * 2, none⟩) (Nat.lt_of_lt_of_le hgl hb2.size)).trans d0')
            go_ret2
            exact ⟨by rw [hfin.out]; rfl, hb2.trans (hb3.mono hb2.size)⟩
          · have hfin : Hid (Cf.slotIn st cls addr m = Ref.firstFrom (Cf.inS st cls addr m) e (n + 1)) := by
              show _ = _
              rw [hs2.out, hst.out, if_neg (by rw [hin.out]; simpa using hi)]
            go_wp2_with (go_at_call 47; refine (begin_any st rest _ cap cls _ _ _ HV.out (HH.out.below hb2) (by omega) (by omega) (by omega) (by omega)).mono ?_; rw [Int.toNat_natCast]; rintro e1 w1 ⟨rfl, hb3⟩; have q2 := (hb3.cell (p := ⟨w.heap.size, 2, none⟩) ccc.lt).trans k2; have q0 := (hb3.cell (p := ⟨g, off + m * 2, none⟩) (Nat.lt_of_lt_of_le hgl hb2.size)).trans d0')
            all_goals
              go_roundw
              case rel => exact ⟨n + 1, e, by have := HN.out; omega, by go_num, hfin, hb2.trans (hb3.mono hb2.size), ccc.below hb3 ccc.lt⟩
              case measure => simp [intOf]; omega
end Go.Proofs.Ytjikemhmnkckcaa
namespace Go.Proofs.Ytjikemhmnkckcaa
open Go.RowKit

/-- what the document's heap keeps: a valid configuration, and small sizes -/
structure ROk (R : RSt) : Prop where
  conf : Cf.Valid R.st R.rest R.cls
  size0 : ∀ i, 0 ≤ (R.log.getD i Ref.Ev.no).size
  size1 : ∀ i, (R.log.getD i Ref.Ev.no).size ≤ 8

set_option maxHeartbeats 1000000 in
theorem rtag_any (p : Nat) (vc vl vm : Value) (R : RSt) (addr : Int) (w : World) (h : RRep w p vc vl vm R) (ho : ROk R) :
    Calls Try.prog 17 #[.pointer (some ⟨p, 0, none⟩), .int .i64 addr] w fun e w' => e = .returned (.int .i64 (Cf.tag R.st R.cls R.log addr)) ∧ Below w.heap.size w w' := by
  have HR : Hid (RRep w p vc vl vm R) := h
  have HO : Hid (ROk R) := ho
  have hp := h.blk.lt
  have c0 := h.blk.cell (j := 0) rfl
  have c1 := h.blk.cell (j := 1) rfl
  have c2 := h.blk.cell (j := 2) rfl
  have c3 := h.blk.cell (j := 3) rfl
  have b0 := ho.conf.st0
  have b1 := ho.conf.st1
  obtain ⟨a, cap, rfl, hcr⟩ := CRow.of_row h.cls
  obtain ⟨al, capl, rfl, hcapl, hmaxl, hrow⟩ := row_open h.log
  unfold maxLen at hmaxl
  have HC : Hid (CRow w a cap R.cls) := hcr
  have HL : Hid (0 < R.log.length → ∃ g, al = some ⟨g, 0, none⟩ ∧ g < w.heap.size ∧ (∀ j u, (R.log.flatMap evCells)[j]? = some u → w.cell? ⟨g, j, none⟩ = some u) ∧ (∀ j, w.frozen? ⟨g, j, none⟩ = false)) := hrow
  have htag : Hid (Cf.tag R.st R.cls R.log addr = if 16 ≤ addr ∧ addr < 16 * (1 + R.st) then 0
    else if (Cf.slot R.st R.cls addr).1 < 0 then -1
    else if Ref.state R.log (Cf.slot R.st R.cls addr).1 (Cf.slot R.st R.cls addr).2 ≠ 3 then 15
    else if Cf.begin_ R.st R.cls (Cf.slot R.st R.cls addr).1.toNat (Cf.slot R.st R.cls addr).2 + 16 * (R.log.getD (Ref.given R.log (Cf.slot R.st R.cls addr).1 (Cf.slot R.st R.cls addr).2).toNat Ref.Ev.no).size ≤ addr then 15
    else (R.log.getD (Ref.given R.log (Cf.slot R.st R.cls addr).1 (Cf.slot R.st R.cls addr).2).toNat Ref.Ev.no).tag) := rfl
  clear h ho hcr hrow
  by_cases hs : 16 ≤ addr ∧ addr < 16 * (1 + R.st)
  · have hfin : Hid (Cf.tag R.st R.cls R.log addr = 0) := by show _ = _; rw [htag.out, if_pos hs]
    clear htag
    obtain ⟨s0, s1⟩ := hs
    go_enter Try.func17, Try.ntmps17
    go_wp2
    go_ret
    exact ⟨ret_int hfin.out.symm, Below.refl _ _⟩
  · have htag2 : Hid (Cf.tag R.st R.cls R.log addr = if (Cf.slot R.st R.cls addr).1 < 0 then -1
      else if Ref.state R.log (Cf.slot R.st R.cls addr).1 (Cf.slot R.st R.cls addr).2 ≠ 3 then 15
      else if Cf.begin_ R.st R.cls (Cf.slot R.st R.cls addr).1.toNat (Cf.slot R.st R.cls addr).2 + 16 * (R.log.getD (Ref.given R.log (Cf.slot R.st R.cls addr).1 (Cf.slot R.st R.cls addr).2).toNat Ref.Ev.no).size ≤ addr then 15
      else (R.log.getD (Ref.given R.log (Cf.slot R.st R.cls addr).1 (Cf.slot R.st R.cls addr).2).toNat Ref.Ev.no).tag) := by show _ = _; rw [htag.out, if_neg hs]
    clear htag
    rcases Cf.slot_bd R.st R.cls addr with hsl | ⟨k, s, hsl, hk, hs2, _⟩
    · have hfin : Hid (Cf.tag R.st R.cls R.log addr = -1) := by show _ = _; rw [htag2.out, hsl]; rfl
      have HS : Hid (Cf.slot R.st R.cls addr = (-1, -1)) := hsl
      clear htag2 hsl
      go_enter Try.func17, Try.ntmps17
      go_wp2_with (go_at_call 44; refine (slot_any R.st R.rest _ cap R.cls _ _ HO.out.conf HC.out).mono ?_; rw [HS.out]; rintro e1 w1 ⟨rfl, hb1⟩)
      all_goals
        go_ret
        exact ⟨ret_int hfin.out.symm, hb1⟩
    · rw [hsl] at htag2
      have htag3 : Hid (Cf.tag R.st R.cls R.log addr = if Ref.state R.log k s ≠ 3 then 15
        else if Cf.begin_ R.st R.cls k s + 16 * (R.log.getD (Ref.given R.log k s).toNat Ref.Ev.no).size ≤ addr then 15
        else (R.log.getD (Ref.given R.log k s).toNat Ref.Ev.no).tag) := by show _ = _; rw [htag2.out, if_neg (by simp)]; rfl
      have HS : Hid (Cf.slot R.st R.cls addr = ((k : Int), (s : Int))) := hsl
      have sl1 := HO.out.conf.s1 k hk
      clear htag2 hsl
      by_cases hst : Ref.state R.log k s = 3
      · have htag4 : Hid (Cf.tag R.st R.cls R.log addr = if Cf.begin_ R.st R.cls k s + 16 * (R.log.getD (Ref.given R.log k s).toNat Ref.Ev.no).size ≤ addr then 15
          else (R.log.getD (Ref.given R.log k s).toNat Ref.Ev.no).tag) := by show _ = _; rw [htag3.out, if_neg (by simp [hst])]
        have hgv : 0 ≤ Ref.given R.log k s := by
          unfold Ref.state at hst; split at hst
          · omega
          · omega
        have g2 := Ref.given_hi R.log k s
        have z0 := HO.out.size0 (Ref.given R.log k s).toNat
        have z1 := HO.out.size1 (Ref.given R.log k s).toNat
        have bb := Cf.begin_bd HO.out.conf k hk s (by omega) (by omega)
        obtain ⟨g, rfl, hgl, hcell, _⟩ := HL.out (by omega)
        obtain ⟨_, _, _, d3, d4, _⟩ := ev_cells hcell (Ref.given R.log k s).toNat (by omega)
        have HST : Hid (Ref.state R.log k s = 3) := hst
        have hq : Hid (R.log.getD (Ref.given R.log k s).toNat Ref.Ev.no = R.log.getD (Ref.given R.log k s).toNat Ref.Ev.no) := rfl
        generalize R.log.getD (Ref.given R.log k s).toNat Ref.Ev.no = ev at *
        clear htag3 hst hcell hq HL
        by_cases hbig : Cf.begin_ R.st R.cls k s + 16 * ev.size ≤ addr
        all_goals
          go_enter Try.func17, Try.ntmps17
          go_wp2_with (first
            | (go_at_call 44; refine (slot_any R.st R.rest _ cap R.cls _ _ HO.out.conf HC.out).mono ?_; rw [HS.out]; rintro e1 w1 ⟨rfl, hb1⟩)
            | (go_at_call 45; refine (state_any _ _ _ _ _ _ _ _ (HR.out.below hb1)).mono ?_; rw [HST.out]; rintro e1 w2 ⟨rfl, hb2'⟩; have hb2 := hb1.trans (hb2'.mono hb1.size); clear hb2')
            | (go_at_call 46; refine (given_any _ _ _ _ _ _ _ _ (HR.out.below hb2)).mono ?_; rintro e1 w3 ⟨rfl, hb3'⟩; have hb3 := hb2.trans (hb3'.mono hb2.size); clear hb3'; have q0 := (hb3.cell (p := ⟨p, 0, none⟩) hp).trans c0; have q1 := (hb3.cell (p := ⟨p, 1, none⟩) hp).trans c1; have q2 := (hb3.cell (p := ⟨p, 2, none⟩) hp).trans c2)
            | (go_at_call 47; refine (begin_any R.st R.rest _ cap R.cls _ _ _ HO.out.conf (HC.out.below hb3) (by omega) (by omega) (by omega) (by omega)).mono ?_; rw [Int.toNat_natCast]; rintro e1 w4 ⟨rfl, hb4'⟩; have hb4 := hb3.trans (hb4'.mono hb3.size); clear hb4'; have q3 := (hb4.cell (p := ⟨p, 3, none⟩) hp).trans c3; have r3 := (hb4.cell (p := ⟨g, (Ref.given R.log k s).toNat * 6 + 3, none⟩) hgl).trans d3; have r4 := (hb4.cell (p := ⟨g, (Ref.given R.log k s).toNat * 6 + 4, none⟩) hgl).trans d4))
          all_goals
            go_ret
            first
              | exact ⟨ret_int (by rw [htag4.out, if_pos hbig]), hb4⟩
              | exact ⟨ret_int (by rw [htag4.out, if_neg (by omega)]), hb4⟩
      · have hfin : Hid (Cf.tag R.st R.cls R.log addr = 15) := by show _ = _; rw [htag3.out, if_pos hst]
        have hne : (Ref.state R.log k s != 3) = true := by rw [bne_iff_ne]; exact hst
        clear htag3 hst HL
        go_enter Try.func17, Try.ntmps17
        go_wp2_with (first
          | (go_at_call 44; refine (slot_any R.st R.rest _ cap R.cls _ _ HO.out.conf HC.out).mono ?_; rw [HS.out]; rintro e1 w1 ⟨rfl, hb1⟩)
          | (go_at_call 45; refine (state_any _ _ _ _ _ _ _ _ (HR.out.below hb1)).mono ?_; rintro e1 w2 ⟨rfl, hb2'⟩; have hb2 := hb1.trans (hb2'.mono hb1.size); clear hb2'))
        all_goals
          go_ret
          exact ⟨ret_int hfin.out.symm, hb2⟩
end Go.Proofs.Ytjikemhmnkckcaa
