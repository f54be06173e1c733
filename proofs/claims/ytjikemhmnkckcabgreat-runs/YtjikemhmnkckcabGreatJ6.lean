import Derived.Test.YtjikemhmnkckcabGreatJ4
import Derived.Test.YtjikemhmnkckcabGreatJ5
import Derived.Test.YtjikemhmnkckcabGreatJ3
import Derived.Test.YtjikemhmnkckcabGreatJ2
import Derived.Test.YtjikemhmnkckcabGreatJ1
namespace Go.Proofs.YtjikemhmnkckcabGreat
open Go.RowKit

/-- the program's classes are those of the configuration -/
structure GOk (G : GSt) (rest : Int) (cls : List (Int × Int)) : Prop where
  conf : Cf.Valid G.st rest cls
  rest_ : G.rest = rest
  len : G.cs.length = cls.length
  bg : ∀ k, k < cls.length → (G.cs.getD k GCls.no).begin_ = 16 * Cf.gran G.st cls k
  by_ : ∀ k, k < cls.length → (G.cs.getD k GCls.no).bytes = 16 * Cf.gr cls k
  sl : ∀ k, k < cls.length → ((G.cs.getD k GCls.no).slots.length : Int) = Cf.sl cls k

set_option maxHeartbeats 400000 in
theorem has_any (b off : Nat) (bg by_ addr : Int) (n : Nat) (sa : Option Addr) (sc : Nat) (w : World) (h0 : w.cell? ⟨b, off, none⟩ = some (.int .i64 bg)) (h1 : w.cell? ⟨b, off + 1, none⟩ = some (.int .i64 by_)) (h2 : w.cell? ⟨b, off + 2, none⟩ = some (.slice sa n sc))
    (b0 : 0 ≤ bg) (b1 : bg ≤ 1000000) (m0 : 0 ≤ (n : Int) * by_) (m1 : (n : Int) * by_ ≤ 1000000) :
    Calls Tryz.prog 162 #[.pointer (some ⟨b, off, none⟩), .int .i64 addr] w fun e w' => e = .returned (.bool (decide (bg ≤ addr) && decide (addr < bg + (n : Int) * by_))) ∧ Below w.heap.size w w' := by
  have hbl := World.block_lt_of_cell? w _ h0
  go_enter Tryz.func162, Tryz.ntmps162
  go_wp2_with (go_at_call 55; refine (slotBegin_any b off bg by_ (n : Int) _ h0 h1 b0 b1 m0 m1).mono ?_; rintro e1 w1 ⟨rfl, hb1⟩; have q0 := (hb1.cell (p := ⟨b, off, none⟩) hbl).trans h0)
  all_goals
    go_ret
    refine ⟨ret_bool ?_, hb1⟩
    first | (simp [*]; done) | (simp [*]; omega)

set_option maxHeartbeats 400000 in
theorem inStatic_any (p : Nat) (vc : Value) (bb : Nat) (G : GSt) (addr : Int) (w : World) (h : GRep w p vc bb G) (s0 : 0 ≤ G.st) (s1 : G.st ≤ 16) :
    Calls Tryz.prog 164 #[.pointer (some ⟨p, 0, none⟩), .int .i64 addr] w fun e w' => e = .returned (.bool (decide (16 ≤ addr) && decide (addr < 16 * (1 + G.st)))) ∧ w' = w := by
  have c0 := h.blk.cell (j := 0) rfl
  clear h
  go_enter Tryz.func164, Tryz.ntmps164
  go_wp2
  all_goals
    go_ret
    refine ⟨ret_bool ?_, rfl⟩
    first | (simp [*]; done) | (simp [*]; omega) | (rw [Bool.eq_iff_iff]; simp [*]; omega)

set_option maxRecDepth 100000 in
set_option maxHeartbeats 1600000 in
theorem slotAt_any (p : Nat) (vc : Value) (bb : Nat) (G : GSt) (rest : Int) (cls : List (Int × Int)) (addr : Int) (w : World) (h : GRep w p vc bb G) (ho : GOk G rest cls) (a0 : -9223372036854775808 ≤ addr) (a1 : addr ≤ 9223372036854775807) :
    Calls Tryz.prog 157 #[.pointer (some ⟨p, 0, none⟩), .int .i64 addr] w fun e w' => e = .returned (.tuple #[.int .i64 (Cf.cslot G.st cls addr).1, .int .i64 (Cf.cslot G.st cls addr).2]) ∧ Below w.heap.size w w' := by
  have HR : Hid (GRep w p vc bb G) := h
  have HO : Hid (GOk G rest cls) := ho
  have hp := h.blk.lt
  have c2 := h.blk.cell (j := 2) rfl
  have n0 := ho.conf.n0
  have n1 := ho.conf.n1
  have hlen := ho.len
  obtain ⟨ac, cap, rfl, hcap, hmax, hrow⟩ := row_open h.cls
  obtain ⟨g, rfl, hgl, hcell, _⟩ := hrow (by omega)
  unfold maxLen at hmax
  have HC : Hid (∀ j u, (G.cs.flatMap gclsCells)[j]? = some u → w.cell? ⟨g, j, none⟩ = some u) := hcell
  have HL : Hid (G.cs.length = cls.length) := hlen
  have hl1 : G.cs.length ≤ 4 := by omega
  clear h ho hrow hcell hlen
  go_enter Tryz.func157, Tryz.ntmps157
  go_wp2
  go_loopw [6] (fun i wr => ∃ m f : Nat, m + f = G.cs.length ∧ i = .int .i64 (m : Int) ∧ Hid (Cf.cslot G.st cls addr = Cf.cslotFrom G.st cls addr f m) ∧ Below w.heap.size w wr) (fun i _ => G.cs.length - (intOf i).toNat)
  case atStart => exact ⟨0, G.cs.length, by omega, rfl, by show _ = _; rw [HL.out]; rfl, Below.refl _ _⟩
  case round =>
    obtain ⟨m, f, hm, rfl, hs, hb⟩ := hrel
    have c2' := (hb.cell (p := ⟨p, 2, none⟩) hp).trans c2
    cases f with
    | zero =>
      have hm' : ¬ (m : Int) < G.cs.length := by omega
      clear hm
      go_wp2
      go_ret2
      exact ⟨by rw [hs.out]; rfl, hb⟩
    | succ f =>
      have hlt : m < G.cs.length := by omega
      have hlt2 : m < cls.length := by have := HL.out; omega
      have HM : Hid (m + (f + 1) = G.cs.length) := hm
      obtain ⟨d0, d1, d2⟩ := gcls_cells HC.out m hlt
      rw [HO.out.bg m hlt2] at d0
      rw [HO.out.by_ m hlt2] at d1
      have hsl := HO.out.sl m hlt2
      have g0 := HO.out.conf.g0 m hlt2
      have g1 := HO.out.conf.g1 m hlt2
      have s0 := HO.out.conf.s0 m hlt2
      have s1 := HO.out.conf.s1 m hlt2
      have gb := Cf.gran_bd HO.out.conf m (by omega)
      have pbd := Cf.prod_bd (a := Cf.sl cls m) (b := Cf.gr cls m) (by omega) (by omega) (by omega) (by omega)
      have hst : Hid (Cf.cslotFrom G.st cls addr (f + 1) m = if Cf.hasB G.st cls addr m then ((m : Int), (addr - 16 * Cf.gran G.st cls m) / (16 * Cf.gr cls m)) else Cf.cslotFrom G.st cls addr f (m + 1)) := rfl
      have hhas : Hid (Cf.hasB G.st cls addr m = (decide (16 * Cf.gran G.st cls m ≤ addr) && decide (addr < 16 * Cf.gran G.st cls m + (Cf.sl cls m) * (16 * Cf.gr cls m)))) := rfl
      rw [← hsl] at hhas pbd
      have pb2 : ((G.cs.getD m GCls.no).slots.length : Int) * (16 * Cf.gr cls m) = 16 * (((G.cs.getD m GCls.no).slots.length : Int) * Cf.gr cls m) := Int.mul_left_comm _ _ _
      have PM : Hid (0 ≤ ((G.cs.getD m GCls.no).slots.length : Int) * (16 * Cf.gr cls m) ∧ ((G.cs.getD m GCls.no).slots.length : Int) * (16 * Cf.gr cls m) ≤ 1000000) := by
        rw [pb2]; exact ⟨by omega, by omega⟩
      have d0' := (hb.cell (p := ⟨g, m * 3, none⟩) hgl).trans d0
      have d1' := (hb.cell (p := ⟨g, m * 3 + 1, none⟩) hgl).trans d1
      have d2' := (hb.cell (p := ⟨g, m * 3 + 2, none⟩) hgl).trans d2
      generalize (G.cs.getD m GCls.no).slots.length = n at *
      generalize (G.cs.getD m GCls.no).sb = sb at *
      clear d0 d1 d2 hm hsl pb2 pbd
      cases hh : Cf.hasB G.st cls addr m
      · have HH : Hid ((decide (16 * Cf.gran G.st cls m ≤ addr) && decide (addr < 16 * Cf.gran G.st cls m + (n : Int) * (16 * Cf.gr cls m))) = false) := by show _ = _; rw [← hhas.out, hh]
        have hfin : Hid (Cf.cslot G.st cls addr = Cf.cslotFrom G.st cls addr f (m + 1)) := by show _ = _; rw [hs.out, hst.out, hh]; rfl
        clear hh
        go_wp2_with fail
        refine (has_any wr.heap.size 0 (16 * Cf.gran G.st cls m) (16 * Cf.gr cls m) addr n (some ⟨sb, 0, none⟩) n _ (World.cell?_alloc_new _ _ _ _) (World.cell?_alloc_new _ _ _ _) (World.cell?_alloc_new _ _ _ _) (by omega) (by omega) PM.out.1 PM.out.2).mono ?_
        rw [HH.out]
        rintro e1 w1 ⟨rfl, hb1⟩
        go_wp2
        go_roundw
        case rel => exact ⟨m + 1, f, by have := HM.out; omega, by go_num, hfin, (hb.alloc hb.size _).trans (hb1.mono (by rw [World.size_alloc]; have := hb.size; omega))⟩
        case measure => simp [intOf]; omega
      · have HH : Hid ((decide (16 * Cf.gran G.st cls m ≤ addr) && decide (addr < 16 * Cf.gran G.st cls m + (n : Int) * (16 * Cf.gr cls m))) = true) := by show _ = _; rw [← hhas.out, hh]
        have hfin : Hid (Cf.cslot G.st cls addr = ((m : Int), (addr - 16 * Cf.gran G.st cls m) / (16 * Cf.gr cls m))) := by show _ = _; rw [hs.out, hst.out, hh]; rfl
        have hlo : 16 * Cf.gran G.st cls m ≤ addr := by have := HH.out; simp only [Bool.and_eq_true, decide_eq_true_eq] at this; exact this.1
        clear hh
        go_wp2_with fail
        refine (has_any wr.heap.size 0 (16 * Cf.gran G.st cls m) (16 * Cf.gr cls m) addr n (some ⟨sb, 0, none⟩) n _ (World.cell?_alloc_new _ _ _ _) (World.cell?_alloc_new _ _ _ _) (World.cell?_alloc_new _ _ _ _) (by omega) (by omega) PM.out.1 PM.out.2).mono ?_
        rw [HH.out]
        rintro e1 w1 ⟨rfl, hb1⟩
        have q0 := (hb1.cell (p := ⟨wr.heap.size, 0, none⟩) (by simp)).trans (World.cell?_alloc_new _ _ _ _)
        have q1 := (hb1.cell (p := ⟨wr.heap.size, 1, none⟩) (by simp)).trans (World.cell?_alloc_new _ _ _ _)
        go_wp2
        go_quiet (fail)
        go_wp2
        go_ret2
        exact ⟨by rw [hfin.out]; rfl, below_drewN ((hb.alloc hb.size _).trans (hb1.mono (by rw [World.size_alloc]; have := hb.size; omega))) _⟩
end Go.Proofs.YtjikemhmnkckcabGreat
namespace Go.Proofs.YtjikemhmnkckcabGreat
open Go.RowKit

def slotOf (G : GSt) (k s : Nat) : GSlot := (G.cs.getD k GCls.no).slots.getD s GSlot.no
def gtag (G : GSt) (cls : List (Int × Int)) (addr : Int) : Int :=
  if 16 ≤ addr ∧ addr < 16 * (1 + G.st) then 0
  else if (Cf.slot G.st cls addr).1 < 0 then -1
  else if (slotOf G (Cf.slot G.st cls addr).1.toNat (Cf.slot G.st cls addr).2.toNat).state = 3 ∧ addr < Cf.begin_ G.st cls (Cf.slot G.st cls addr).1.toNat (Cf.slot G.st cls addr).2 + (slotOf G (Cf.slot G.st cls addr).1.toNat (Cf.slot G.st cls addr).2.toNat).bytes
  then (slotOf G (Cf.slot G.st cls addr).1.toNat (Cf.slot G.st cls addr).2.toNat).tag else 15

/-- the numbers in the slots are small -/
def GBd (G : GSt) : Prop := ∀ k s, 0 ≤ (slotOf G k s).bytes ∧ (slotOf G k s).bytes ≤ 128

set_option maxRecDepth 100000 in
set_option maxHeartbeats 1600000 in
theorem gtag_any (p : Nat) (vc : Value) (bb : Nat) (G : GSt) (rest : Int) (cls : List (Int × Int)) (addr : Int) (w : World) (h : GRep w p vc bb G) (ho : GOk G rest cls) (hbd : GBd G) (a0 : -9223372036854775808 ≤ addr) (a1 : addr ≤ 9223372036854775807) :
    Calls Tryz.prog 163 #[.pointer (some ⟨p, 0, none⟩), .int .i64 addr] w fun e w' => e = .returned (.int .i64 (gtag G cls addr)) ∧ Below w.heap.size w w' := by
  have HR : Hid (GRep w p vc bb G) := h
  have HO : Hid (GOk G rest cls) := ho
  have hp := h.blk.lt
  have c2 := h.blk.cell (j := 2) rfl
  have b0 := ho.conf.st0
  have b1 := ho.conf.st1
  have n0 := ho.conf.n0
  have n1 := ho.conf.n1
  have hlen := ho.len
  obtain ⟨ac, cap, rfl, hcap, hmax, hrow⟩ := row_open h.cls
  obtain ⟨g, rfl, hgl, hcell, _⟩ := hrow (by omega)
  unfold maxLen at hmax
  have HC : Hid (∀ j u, (G.cs.flatMap gclsCells)[j]? = some u → w.cell? ⟨g, j, none⟩ = some u) := hcell
  have HB : Hid (GBd G) := hbd
  have hl1 : G.cs.length ≤ 4 := by omega
  have htag : Hid (gtag G cls addr = if 16 ≤ addr ∧ addr < 16 * (1 + G.st) then 0
    else if (Cf.slot G.st cls addr).1 < 0 then -1
    else if (slotOf G (Cf.slot G.st cls addr).1.toNat (Cf.slot G.st cls addr).2.toNat).state = 3 ∧ addr < Cf.begin_ G.st cls (Cf.slot G.st cls addr).1.toNat (Cf.slot G.st cls addr).2 + (slotOf G (Cf.slot G.st cls addr).1.toNat (Cf.slot G.st cls addr).2.toNat).bytes
    then (slotOf G (Cf.slot G.st cls addr).1.toNat (Cf.slot G.st cls addr).2.toNat).tag else 15) := rfl
  clear h ho hrow hcell hbd
  by_cases hs : 16 ≤ addr ∧ addr < 16 * (1 + G.st)
  · have hfin : Hid (gtag G cls addr = 0) := by show _ = _; rw [htag.out, if_pos hs]
    have HS : Hid ((decide (16 ≤ addr) && decide (addr < 16 * (1 + G.st))) = true) := by show _ = _; simp [hs]
    clear htag hs hlen
    go_enter Tryz.func163, Tryz.ntmps163
    go_wp2_with (go_at_call 164; refine (inStatic_any p _ bb G addr _ HR.out b0 b1).mono ?_; rw [HS.out]; rintro e1 w1 ⟨rfl, rfl⟩)
    go_ret
    exact ⟨ret_int hfin.out.symm, Below.refl _ _⟩
  · have HS : Hid ((decide (16 ≤ addr) && decide (addr < 16 * (1 + G.st))) = false) := by show _ = _; simpa using hs
    have htag2 := htag.out
    rw [if_neg hs] at htag2
    clear htag hs
    rcases Cf.slot_bd G.st cls addr with hsl | ⟨k, s, hsl, hk, hs2, _⟩
    · have hfin : Hid (gtag G cls addr = -1) := by show _ = _; rw [htag2, hsl]; rfl
      have HL : Hid (Cf.cslot G.st cls addr = (-1, 0)) := Cf.cslot_no HO.out.conf addr hsl
      clear htag2 hsl hlen
      go_enter Tryz.func163, Tryz.ntmps163
      go_wp2_with (first
        | (go_at_call 164; refine (inStatic_any p _ bb G addr _ HR.out b0 b1).mono ?_; rw [HS.out]; rintro e1 w1 ⟨rfl, rfl⟩)
        | (go_at_call 157; refine (slotAt_any p _ bb G rest cls addr _ HR.out HO.out a0 a1).mono ?_; rw [HL.out]; rintro e1 w2 ⟨rfl, hb2⟩))
      go_ret
      exact ⟨ret_int hfin.out.symm, hb2⟩
    · have hfin : Hid (gtag G cls addr = if (slotOf G k s).state = 3 ∧ addr < Cf.begin_ G.st cls k s + (slotOf G k s).bytes then (slotOf G k s).tag else 15) := by
        show _ = _; rw [htag2, hsl, if_neg (by simp)]; rfl
      have HL : Hid (Cf.cslot G.st cls addr = ((k : Int), (s : Int))) := Cf.cslot_yes HO.out.conf addr k s hsl
      have hkl : k < G.cs.length := by omega
      obtain ⟨d0, d1, d2⟩ := gcls_cells HC.out k hkl
      rw [HO.out.bg k hk] at d0
      rw [HO.out.by_ k hk] at d1
      have hsl2 := HO.out.sl k hk
      have g0 := HO.out.conf.g0 k hk
      have g1 := HO.out.conf.g1 k hk
      have s0 := HO.out.conf.s0 k hk
      have s1 := HO.out.conf.s1 k hk
      have hsn : s < (G.cs.getD k GCls.no).slots.length := by omega
      have gb := Cf.gran_bd HO.out.conf k (by omega)
      have pbd := Cf.prod_bd (a := (s : Int)) (b := Cf.gr cls k) (by omega) (by omega) (by omega) (by omega)
      have bd := Cf.begin_bd HO.out.conf k hk s (by omega) (by omega)
      have HBE : Hid (Cf.begin_ G.st cls k s = 16 * Cf.gran G.st cls k + (s : Int) * (16 * Cf.gr cls k)) := Cf.begin_eq _ _ _ _
      have PM : Hid (0 ≤ (s : Int) * (16 * Cf.gr cls k) ∧ (s : Int) * (16 * Cf.gr cls k) ≤ 1000000) := by
        rw [Int.mul_left_comm]; exact ⟨by omega, by omega⟩
      have hblk := HR.out.slots k hkl
      have hbl := hblk.lt
      obtain ⟨e0, e1, e2, e3, e4, e5⟩ := slot_cells hblk s hsn
      have hx := HB.out k s
      change w.cell? _ = some (.int .i64 (slotOf G k s).state) at e0
      change w.cell? _ = some (.int .i64 (slotOf G k s).tag) at e1
      change w.cell? _ = some (.int .i64 (slotOf G k s).bytes) at e2
      change w.cell? _ = some (.int .i64 (slotOf G k s).rest) at e3
      change w.cell? _ = some (.int .i64 (slotOf G k s).alloc) at e4
      change w.cell? _ = some (.int .i64 (slotOf G k s).gone) at e5
      generalize slotOf G k s = x at *
      generalize (G.cs.getD k GCls.no).slots.length = n at *
      generalize (G.cs.getD k GCls.no).sb = sb at *
      have hkI : (k : Int) < (G.cs.length : Int) := by omega
      have hsI : (s : Int) < (n : Int) := by omega
      obtain ⟨x1, x2⟩ := hx
      clear htag2 hsl hlen hblk hsl2
      cases hst : (x.state == 3)
      · have hfin2 : Hid (gtag G cls addr = 15) := by
          show _ = _; rw [hfin.out, if_neg (by rw [beq_eq_false_iff_ne] at hst; exact fun h => hst h.1)]
        go_enter Tryz.func163, Tryz.ntmps163
        go_wp2_with fail
        refine (inStatic_any p _ bb G addr _ HR.out b0 b1).mono ?_
        rw [HS.out]
        rintro e1 w1 ⟨rfl, rfl⟩
        go_wp2_with fail
        refine (slotAt_any p _ bb G rest cls addr _ HR.out HO.out a0 a1).mono ?_
        rw [HL.out]
        rintro e1 w2 ⟨rfl, hb2⟩
        have c2' := (hb2.cell (p := ⟨p, 2, none⟩) hp).trans c2
        have d0' := (hb2.cell (p := ⟨g, k * 3, none⟩) hgl).trans d0
        have d1' := (hb2.cell (p := ⟨g, k * 3 + 1, none⟩) hgl).trans d1
        have d2' := (hb2.cell (p := ⟨g, k * 3 + 2, none⟩) hgl).trans d2
        have e0' := (hb2.cell (p := ⟨sb, s * 6, none⟩) hbl).trans e0
        have e1' := (hb2.cell (p := ⟨sb, s * 6 + 1, none⟩) hbl).trans e1
        have e2' := (hb2.cell (p := ⟨sb, s * 6 + 2, none⟩) hbl).trans e2
        have e3' := (hb2.cell (p := ⟨sb, s * 6 + 3, none⟩) hbl).trans e3
        have e4' := (hb2.cell (p := ⟨sb, s * 6 + 4, none⟩) hbl).trans e4
        have e5' := (hb2.cell (p := ⟨sb, s * 6 + 5, none⟩) hbl).trans e5
        have hpl : p < w2.heap.size := Nat.lt_of_lt_of_le hp hb2.size
        have hgl2 : g < w2.heap.size := Nat.lt_of_lt_of_le hgl hb2.size
        clear c2 d0 d1 d2 e0 e1 e2 e3 e4 e5
        go_wp2_with fail
        refine (slotBegin_any g (k * 3) (16 * Cf.gran G.st cls k) (16 * Cf.gr cls k) (s : Int) _ ((World.cell?_alloc_lt _ _ _ hgl2).trans d0') ((World.cell?_alloc_lt _ _ _ hgl2).trans d1') (by omega) (by omega) PM.out.1 PM.out.2).mono ?_
        rw [← HBE.out]
        rintro e1 w3 ⟨rfl, hb3⟩
        have q0 := (hb3.cell (p := ⟨w2.heap.size, 0, none⟩) (by simp)).trans (World.cell?_alloc_new _ _ _ _)
        have q1 := (hb3.cell (p := ⟨w2.heap.size, 1, none⟩) (by simp)).trans (World.cell?_alloc_new _ _ _ _)
        have q2 := (hb3.cell (p := ⟨w2.heap.size, 2, none⟩) (by simp)).trans (World.cell?_alloc_new _ _ _ _)
        have hbw : Hid (Below w1.heap.size w1 w3) := (hb2.alloc hb2.size _).trans (hb3.mono (by rw [World.size_alloc]; have := hb2.size; omega))
        clear hb3 c2' d0' d1' d2' e0' e1' e2' e3' e4' e5'
        go_wp2
        all_goals
          go_ret
          exact ⟨ret_int hfin2.out.symm, hbw.out⟩
      · have hst3 : x.state = 3 := by simpa using hst
        by_cases hlt : addr < Cf.begin_ G.st cls k s + x.bytes
        · have hfin2 : Hid (gtag G cls addr = x.tag) := by show _ = _; rw [hfin.out, if_pos ⟨hst3, hlt⟩]
          clear hst3
          go_enter Tryz.func163, Tryz.ntmps163
          go_wp2_with fail
          refine (inStatic_any p _ bb G addr _ HR.out b0 b1).mono ?_
          rw [HS.out]
          rintro e1 w1 ⟨rfl, rfl⟩
          go_wp2_with fail
          refine (slotAt_any p _ bb G rest cls addr _ HR.out HO.out a0 a1).mono ?_
          rw [HL.out]
          rintro e1 w2 ⟨rfl, hb2⟩
          have c2' := (hb2.cell (p := ⟨p, 2, none⟩) hp).trans c2
          have d0' := (hb2.cell (p := ⟨g, k * 3, none⟩) hgl).trans d0
          have d1' := (hb2.cell (p := ⟨g, k * 3 + 1, none⟩) hgl).trans d1
          have d2' := (hb2.cell (p := ⟨g, k * 3 + 2, none⟩) hgl).trans d2
          have e0' := (hb2.cell (p := ⟨sb, s * 6, none⟩) hbl).trans e0
          have e1' := (hb2.cell (p := ⟨sb, s * 6 + 1, none⟩) hbl).trans e1
          have e2' := (hb2.cell (p := ⟨sb, s * 6 + 2, none⟩) hbl).trans e2
          have e3' := (hb2.cell (p := ⟨sb, s * 6 + 3, none⟩) hbl).trans e3
          have e4' := (hb2.cell (p := ⟨sb, s * 6 + 4, none⟩) hbl).trans e4
          have e5' := (hb2.cell (p := ⟨sb, s * 6 + 5, none⟩) hbl).trans e5
          have hpl : p < w2.heap.size := Nat.lt_of_lt_of_le hp hb2.size
          have hgl2 : g < w2.heap.size := Nat.lt_of_lt_of_le hgl hb2.size
          clear c2 d0 d1 d2 e0 e1 e2 e3 e4 e5
          go_wp2_with fail
          refine (slotBegin_any g (k * 3) (16 * Cf.gran G.st cls k) (16 * Cf.gr cls k) (s : Int) _ ((World.cell?_alloc_lt _ _ _ hgl2).trans d0') ((World.cell?_alloc_lt _ _ _ hgl2).trans d1') (by omega) (by omega) PM.out.1 PM.out.2).mono ?_
          rw [← HBE.out]
          rintro e1 w3 ⟨rfl, hb3⟩
          have q0 := (hb3.cell (p := ⟨w2.heap.size, 0, none⟩) (by simp)).trans (World.cell?_alloc_new _ _ _ _)
          have q1 := (hb3.cell (p := ⟨w2.heap.size, 1, none⟩) (by simp)).trans (World.cell?_alloc_new _ _ _ _)
          have q2 := (hb3.cell (p := ⟨w2.heap.size, 2, none⟩) (by simp)).trans (World.cell?_alloc_new _ _ _ _)
          have hbw : Hid (Below w1.heap.size w1 w3) := (hb2.alloc hb2.size _).trans (hb3.mono (by rw [World.size_alloc]; have := hb2.size; omega))
          clear hb3 c2' d0' d1' d2' e0' e1' e2' e3' e4' e5'
          go_wp2
          go_ret
          exact ⟨ret_int hfin2.out.symm, hbw.out⟩
        · have hfin2 : Hid (gtag G cls addr = 15) := by show _ = _; rw [hfin.out, if_neg (fun h => hlt h.2)]
          clear hst3
          go_enter Tryz.func163, Tryz.ntmps163
          go_wp2_with fail
          refine (inStatic_any p _ bb G addr _ HR.out b0 b1).mono ?_
          rw [HS.out]
          rintro e1 w1 ⟨rfl, rfl⟩
          go_wp2_with fail
          refine (slotAt_any p _ bb G rest cls addr _ HR.out HO.out a0 a1).mono ?_
          rw [HL.out]
          rintro e1 w2 ⟨rfl, hb2⟩
          have c2' := (hb2.cell (p := ⟨p, 2, none⟩) hp).trans c2
          have d0' := (hb2.cell (p := ⟨g, k * 3, none⟩) hgl).trans d0
          have d1' := (hb2.cell (p := ⟨g, k * 3 + 1, none⟩) hgl).trans d1
          have d2' := (hb2.cell (p := ⟨g, k * 3 + 2, none⟩) hgl).trans d2
          have e0' := (hb2.cell (p := ⟨sb, s * 6, none⟩) hbl).trans e0
          have e1' := (hb2.cell (p := ⟨sb, s * 6 + 1, none⟩) hbl).trans e1
          have e2' := (hb2.cell (p := ⟨sb, s * 6 + 2, none⟩) hbl).trans e2
          have e3' := (hb2.cell (p := ⟨sb, s * 6 + 3, none⟩) hbl).trans e3
          have e4' := (hb2.cell (p := ⟨sb, s * 6 + 4, none⟩) hbl).trans e4
          have e5' := (hb2.cell (p := ⟨sb, s * 6 + 5, none⟩) hbl).trans e5
          have hpl : p < w2.heap.size := Nat.lt_of_lt_of_le hp hb2.size
          have hgl2 : g < w2.heap.size := Nat.lt_of_lt_of_le hgl hb2.size
          clear c2 d0 d1 d2 e0 e1 e2 e3 e4 e5
          go_wp2_with fail
          refine (slotBegin_any g (k * 3) (16 * Cf.gran G.st cls k) (16 * Cf.gr cls k) (s : Int) _ ((World.cell?_alloc_lt _ _ _ hgl2).trans d0') ((World.cell?_alloc_lt _ _ _ hgl2).trans d1') (by omega) (by omega) PM.out.1 PM.out.2).mono ?_
          rw [← HBE.out]
          rintro e1 w3 ⟨rfl, hb3⟩
          have q0 := (hb3.cell (p := ⟨w2.heap.size, 0, none⟩) (by simp)).trans (World.cell?_alloc_new _ _ _ _)
          have q1 := (hb3.cell (p := ⟨w2.heap.size, 1, none⟩) (by simp)).trans (World.cell?_alloc_new _ _ _ _)
          have q2 := (hb3.cell (p := ⟨w2.heap.size, 2, none⟩) (by simp)).trans (World.cell?_alloc_new _ _ _ _)
          have hbw : Hid (Below w1.heap.size w1 w3) := (hb2.alloc hb2.size _).trans (hb3.mono (by rw [World.size_alloc]; have := hb2.size; omega))
          clear hb3 c2' d0' d1' d2' e0' e1' e2' e3' e4' e5'
          go_wp2
          go_ret
          exact ⟨ret_int hfin2.out.symm, hbw.out⟩
end Go.Proofs.YtjikemhmnkckcabGreat
namespace Go.Proofs.YtjikemhmnkckcabGreat
open Go.RowKit

/-- a slot of the program, and what the document's list says of it -/
structure SlotSim (log : List Ref.Ev) (rest : Int) (k s : Nat) (x : GSlot) : Prop where
  st : x.state = Ref.state log k s
  tag : x.tag = Ref.last log k s
  bytes : 0 ≤ Ref.given log k s → x.bytes = 16 * (log.getD (Ref.given log k s).toNat Ref.Ev.no).size
  rest : x.rest = if Ref.state log k s = 4 then max 0 (rest - Ref.since log k s) else 0
  alloc : x.alloc = if Ref.given log k s < 0 then 0 else (log.getD (Ref.given log k s).toNat Ref.Ev.no).site
  gone : x.gone = if Ref.state log k s = 4 then (log.getD (Ref.gone log k s).toNat Ref.Ev.no).site else 0

/-- the events speak of slots that there are; nothing is taken back that was not given out -/
structure LogOk (R : RSt) : Prop where
  cls0 : ∀ i, i < R.log.length → 0 ≤ (R.log.getD i Ref.Ev.no).cls
  slot0 : ∀ i, i < R.log.length → 0 ≤ (R.log.getD i Ref.Ev.no).slot
  slot1 : ∀ i, i < R.log.length → (R.log.getD i Ref.Ev.no).slot < Cf.sl R.cls (R.log.getD i Ref.Ev.no).cls.toNat
  vir : ∀ k s : Nat, Ref.given R.log k s < 0 → Ref.gone R.log k s < 0

structure Sim (G : GSt) (R : RSt) : Prop where
  st : G.st = R.st
  mem : (G.mem.length : Int) = 16 * Cf.gran G.st R.cls R.cls.length
  log : LogOk R
  ok : GOk G R.rest R.cls
  rok : ROk R
  bd : GBd G
  slots : ∀ k s, k < R.cls.length → s < (Cf.sl R.cls k).toNat → SlotSim R.log R.rest k s (slotOf G k s)

theorem Sim.tag {G : GSt} {R : RSt} (h : Sim G R) (addr : Int) : gtag G R.cls addr = Cf.tag R.st R.cls R.log addr := by
  unfold gtag Cf.tag
  rw [h.st]
  by_cases h1 : 16 ≤ addr ∧ addr < 16 * (1 + R.st)
  · rw [if_pos h1, if_pos h1]
  · rw [if_neg h1, if_neg h1]
    rcases Cf.slot_bd R.st R.cls addr with hsl | ⟨k, s, hsl, hk, hs, _⟩
    · rw [hsl]; rfl
    · rw [hsl]
      have hx := h.slots k s hk hs
      have hk0 : ¬ ((k : Int) < 0) := by omega
      simp only [Int.toNat_natCast]
      rw [if_neg hk0, if_neg hk0]
      by_cases h3 : Ref.state R.log k s = 3
      · have hg : 0 ≤ Ref.given R.log k s := by
          unfold Ref.state at h3; split at h3
          · omega
          · omega
        rw [if_neg (c := Ref.state R.log k s ≠ 3) (by simp [h3]), hx.st, hx.bytes hg, hx.tag]
        by_cases h4 : Cf.begin_ R.st R.cls k s + 16 * (R.log.getD (Ref.given R.log k s).toNat Ref.Ev.no).size ≤ addr
        · rw [if_pos h4, if_neg (by omega)]
        · rw [if_neg h4, if_pos ⟨h3, by omega⟩]
          unfold Ref.last
          rw [if_neg (by omega)]
      · rw [if_pos (c := Ref.state R.log k s ≠ 3) h3, hx.st, if_neg (fun x => h3 x.1)]

theorem slotOf_virgin {st : Int} {cls : List (Int × Int)} {cs : List GCls} (h : ClsOk st cls cls.length cs) (rest : Int) (mem : List Int) (k s : Nat) :
    (slotOf ⟨st, rest, cs, mem⟩ k s = GSlot.virgin ∧ k < cls.length ∧ s < (Cf.sl cls k).toNat) ∨ (slotOf ⟨st, rest, cs, mem⟩ k s = GSlot.no ∧ ¬ (k < cls.length ∧ s < (Cf.sl cls k).toNat)) := by
  unfold slotOf
  by_cases hk : k < cls.length
  · show ((cs.getD k GCls.no).slots.getD s GSlot.no = _ ∧ _) ∨ ((cs.getD k GCls.no).slots.getD s GSlot.no = _ ∧ _)
    rw [h.sl k hk]
    by_cases hs : s < (Cf.sl cls k).toNat
    · left; refine ⟨?_, hk, hs⟩
      rw [List.getD_eq_getElem?_getD, List.getElem?_replicate, if_pos hs]; rfl
    · right; refine ⟨?_, fun x => hs x.2⟩
      rw [List.getD_eq_getElem?_getD, List.getElem?_replicate, if_neg hs]; rfl
  · right; refine ⟨?_, fun x => hk x.1⟩
    show (cs.getD k GCls.no).slots.getD s GSlot.no = _
    have : cs.getD k GCls.no = GCls.no := by
      rw [List.getD_eq_getElem?_getD, List.getElem?_eq_none (by rw [h.len]; omega)]; rfl
    rw [this]; rfl

/-- at the beginning -/
theorem Sim.start {st rest : Int} {cls : List (Int × Int)} {cs : List GCls} (hv : Cf.Valid st rest cls) (h : ClsOk st cls cls.length cs) (mem : List Int) (hm : (mem.length : Int) = 16 * Cf.gran st cls cls.length) : Sim ⟨st, rest, cs, mem⟩ ⟨st, rest, cls, [], []⟩ := by
  refine ⟨rfl, hm, ⟨fun i hi => absurd hi (by simp), fun i hi => absurd hi (by simp), fun i hi => absurd hi (by simp), fun k s _ => by show (-1 : Int) < 0; decide⟩, ⟨hv, rfl, h.len, fun k hk => h.bg k hk, fun k hk => h.by_ k hk, fun k hk => ?_⟩, ⟨hv, fun i => by simp [Ref.Ev.no], fun i => by simp [Ref.Ev.no]⟩, fun k s => ?_, fun k s hk hs => ?_⟩
  · show ((cs.getD k GCls.no).slots.length : Int) = Cf.sl cls k
    rw [h.sl k hk, List.length_replicate]; have := hv.s0 k hk; omega
  · rcases slotOf_virgin h rest mem k s with ⟨e, _⟩ | ⟨e, _⟩ <;> rw [e] <;> simp [GSlot.virgin, GSlot.no]
  · rcases slotOf_virgin h rest mem k s with ⟨e, _⟩ | ⟨_, e⟩
    · rw [e]
      have hgv : Ref.given [] (k : Int) (s : Int) = -1 := rfl
      have hst : Ref.state [] (k : Int) (s : Int) = 2 := rfl
      exact ⟨rfl, rfl, fun h0 => by rw [hgv] at h0; omega, by simp [GSlot.virgin, hst], by simp [GSlot.virgin, hgv], by simp [GSlot.virgin, hst]⟩
    · exact absurd ⟨hk, hs⟩ e

/-- the document's heap's own blocks -/
def RFoot (p : Nat) (vc vl vm : Value) (b : Nat) : Prop := b = p ∨ vc.ownBlock = some b ∨ vl.ownBlock = some b ∨ vm.ownBlock = some b
theorem RRep.foot_lt {w : World} {p : Nat} {vc vl vm : Value} {R : RSt} (h : RRep w p vc vl vm R) {b : Nat} (hb : RFoot p vc vl vm b) : b < w.heap.size := by
  rcases hb with rfl | hb | hb | hb
  · exact h.blk.lt
  · exact row_lt h.cls hb
  · exact row_lt h.log hb
  · exact row_lt h.marks hb
theorem RRep.kept {w w' : World} {p : Nat} {vc vl vm : Value} {R : RSt} (h : RRep w p vc vl vm R) (hk : ∀ b, RFoot p vc vl vm b → w'.heap[b]? = w.heap[b]?) : RRep w' p vc vl vm R :=
  ⟨(hk p (.inl rfl)).trans h.blk, row_kept h.cls (fun g hg => hk g (.inr (.inl hg))), row_kept h.log (fun g hg => hk g (.inr (.inr (.inl hg)))), row_kept h.marks (fun g hg => hk g (.inr (.inr (.inr hg)))), h.apC, h.apL, h.apM, h.apCL, h.apCM, h.apLM⟩
end Go.Proofs.YtjikemhmnkckcabGreat
/- Plain mathematics of the document's Malloc and Free. -/
namespace Go.Proofs.YtjikemhmnkckcabGreat
namespace Ref

/-- the first class whose slots hold so many bytes; how many classes there are: none does -/
def classFrom (cls : List (Int × Int)) (size : Int) : Nat → Nat → Nat
  | 0, k => k
  | f + 1, k => if 16 * Cf.gr cls k < size then classFrom cls size f (k + 1) else k
def cls_ (cls : List (Int × Int)) (size : Int) : Nat := classFrom cls size cls.length 0
theorem classFrom_le (cls : List (Int × Int)) (size : Int) (f k : Nat) : k ≤ classFrom cls size f k ∧ classFrom cls size f k ≤ k + f := by
  induction f generalizing k with
  | zero => simp [classFrom]
  | succ f ih => simp only [classFrom]; have := ih (k + 1); split <;> omega
theorem classFrom_at (cls : List (Int × Int)) (size : Int) (f k : Nat) (h : classFrom cls size f k < k + f) : size ≤ 16 * Cf.gr cls (classFrom cls size f k) := by
  induction f generalizing k with
  | zero => simp [classFrom] at h
  | succ f ih =>
    simp only [classFrom] at h ⊢
    split
    · rename_i h1; rw [if_pos h1] at h; exact ih (k + 1) (by omega)
    · omega
theorem cls_le (cls : List (Int × Int)) (size : Int) : cls_ cls size ≤ cls.length := by have := classFrom_le cls size cls.length 0; unfold cls_; omega
theorem cls_at (cls : List (Int × Int)) (size : Int) (h : cls_ cls size < cls.length) : size ≤ 16 * Cf.gr cls (cls_ cls size) := classFrom_at cls size cls.length 0 (by unfold cls_ at h; omega)

/-- may a block be given out of the slot? -/
def openB (log : List Ev) (rest : Int) (k s : Nat) : Bool := (state log k s != 3) && !rests log rest k s
def first (log : List Ev) (rest : Int) (cls : List (Int × Int)) (k : Nat) : Int := firstFrom (openB log rest k) (Cf.sl cls k).toNat 0

/-- how many granules so many bytes need -/
def gsz (size : Int) : Int := (size + 15) / 16

def tagOf (log : List Ev) (k s : Nat) (draw : Int) : Nat := PickMath.pick (last log k s) (last log k ((s : Int) - 1)) (last log k ((s : Int) + 1)) draw
def U : Int := 72057594037927936

/-- is p a tag and an address? -/
def tameB (p : Int) : Bool := decide (0 ≤ p) && decide (p / U ≤ 15) && decide (p % U ≤ 65535)

/-- the slot of class k that begins at a and whose last tag is t, if it is not virgin -/
def matchB (st : Int) (cls : List (Int × Int)) (log : List Ev) (a t : Int) (k s : Nat) : Bool :=
  !(Cf.begin_ st cls k s != a || last log k s != t || state log k s == 2)
def blockIn (st : Int) (cls : List (Int × Int)) (log : List Ev) (a t : Int) (k : Nat) : Int := firstFrom (matchB st cls log a t k) (Cf.sl cls k).toNat 0
/-- class, slot, error -/
def blockFrom (st : Int) (cls : List (Int × Int)) (log : List Ev) (a t : Int) : Nat → Nat → Int × Int × Int
  | 0, _ => (0, 0, 8)
  | f + 1, k => if 0 ≤ blockIn st cls log a t k then (if state log k (blockIn st cls log a t k) = 4 then (0, 0, 9) else ((k : Int), blockIn st cls log a t k, 0)) else blockFrom st cls log a t f (k + 1)
def block (st : Int) (cls : List (Int × Int)) (log : List Ev) (p : Int) : Int × Int × Int :=
  if tameB p then blockFrom st cls log (p % U) (p / U) cls.length 0 else (0, 0, 5)
end Ref
end Go.Proofs.YtjikemhmnkckcabGreat
/- What one event more does to what is looked for in the list. -/
namespace Go.Proofs.YtjikemhmnkckcabGreat
namespace Ref

theorem getD_old (log : List Ev) (e : Ev) (i : Nat) (h : i < log.length) : (log ++ [e]).getD i Ev.no = log.getD i Ev.no := by
  rw [List.getD_eq_getElem?_getD, List.getD_eq_getElem?_getD, List.getElem?_append_left h]
theorem getD_new (log : List Ev) (e : Ev) : (log ++ [e]).getD log.length Ev.no = e := by simp

theorem givenTo_old (log : List Ev) (e : Ev) (k s : Int) (m : Nat) (h : m ≤ log.length) : givenTo (log ++ [e]) k s m = givenTo log k s m := by
  induction m with
  | zero => rfl
  | succ m ih => simp only [givenTo]; rw [getD_old log e m (by omega), ih (by omega)]
theorem given_snoc (log : List Ev) (e : Ev) (k s : Int) : given (log ++ [e]) k s = if e.gives k s then (log.length : Int) else given log k s := by
  unfold given
  rw [List.length_append, List.length_singleton]
  simp only [givenTo]
  rw [getD_new, givenTo_old log e k s log.length (Nat.le_refl _)]

theorem firstFrom_snoc (p : Nat → Bool) (f i : Nat) : firstFrom p (f + 1) i = if 0 ≤ firstFrom p f i then firstFrom p f i else if p (i + f) then ((i + f : Nat) : Int) else -1 := by
  induction f generalizing i with
  | zero =>
    simp only [firstFrom, Nat.add_zero]
    rw [if_neg (show ¬ (0 : Int) ≤ -1 by omega)]
  | succ f ih =>
    have e1 : firstFrom p (f + 1 + 1) i = if p i then (i : Int) else firstFrom p (f + 1) (i + 1) := rfl
    have e2 : firstFrom p (f + 1) i = if p i then (i : Int) else firstFrom p f (i + 1) := rfl
    rw [e1, e2]
    by_cases h : p i = true
    · simp [h]
    · rw [if_neg h, if_neg h, ih (i + 1), show i + 1 + f = i + (f + 1) by omega]
theorem firstFrom_congr (p q : Nat → Bool) (f i : Nat) (h : ∀ j, i ≤ j → j < i + f → p j = q j) : firstFrom p f i = firstFrom q f i := by
  induction f generalizing i with
  | zero => rfl
  | succ f ih =>
    simp only [firstFrom]
    rw [h i (Nat.le_refl _) (by omega), ih (i + 1) (fun j h1 h2 => h j (by omega) (by omega))]
theorem countFrom_snoc (p : Nat → Bool) (f i : Nat) : countFrom p (f + 1) i = countFrom p f i + if p (i + f) then 1 else 0 := by
  induction f generalizing i with
  | zero => simp [countFrom]
  | succ f ih =>
    have e1 : countFrom p (f + 1 + 1) i = (if p i then 1 else 0) + countFrom p (f + 1) (i + 1) := rfl
    have e2 : countFrom p (f + 1) i = (if p i then 1 else 0) + countFrom p f (i + 1) := rfl
    rw [e1, e2, ih (i + 1), show i + 1 + f = i + (f + 1) by omega]; omega
theorem countFrom_congr (p q : Nat → Bool) (f i : Nat) (h : ∀ j, i ≤ j → j < i + f → p j = q j) : countFrom p f i = countFrom q f i := by
  induction f generalizing i with
  | zero => rfl
  | succ f ih =>
    simp only [countFrom]
    rw [h i (Nat.le_refl _) (by omega), ih (i + 1) (fun j h1 h2 => h j (by omega) (by omega))]

theorem gone_gives (log : List Ev) (e : Ev) (k s : Int) (h : e.gives k s = true) : gone (log ++ [e]) k s = -1 := by
  unfold gone
  rw [given_snoc, if_pos h, List.length_append, List.length_singleton, show log.length + 1 - ((log.length : Int) + 1).toNat = 0 by omega]
  rfl
theorem gone_snoc (log : List Ev) (e : Ev) (k s : Int) (h : e.gives k s = false) : gone (log ++ [e]) k s = if 0 ≤ gone log k s then gone log k s else if e.takes k s then (log.length : Int) else -1 := by
  have g1 := given_lo log k s
  have g2 := given_hi log k s
  unfold gone
  rw [given_snoc, if_neg (by rw [h]; decide), List.length_append, List.length_singleton, show log.length + 1 - (given log k s + 1).toNat = (log.length - (given log k s + 1).toNat) + 1 by omega, firstFrom_snoc]
  have ec : firstFrom (fun i => ((log ++ [e]).getD i Ev.no).takes k s) (log.length - (given log k s + 1).toNat) (given log k s + 1).toNat = firstFrom (fun i => (log.getD i Ev.no).takes k s) (log.length - (given log k s + 1).toNat) (given log k s + 1).toNat :=
    firstFrom_congr _ _ _ _ (fun j _ h2 => by rw [getD_old log e j (by omega)])
  rw [ec, show (given log k s + 1).toNat + (log.length - (given log k s + 1).toNat) = log.length by omega]
  rw [getD_new]
theorem since_old (log : List Ev) (e : Ev) (k s : Int) (h : e.gives k s = false) (hg : 0 ≤ gone log k s) : since (log ++ [e]) k s = since log k s + if e.frees k then 1 else 0 := by
  have g2 := gone_hi log k s
  unfold since
  rw [gone_snoc log e k s h, if_pos hg, List.length_append, List.length_singleton, show log.length + 1 - (gone log k s + 1).toNat = (log.length - (gone log k s + 1).toNat) + 1 by omega, countFrom_snoc]
  have ec : countFrom (fun i => ((log ++ [e]).getD i Ev.no).frees k) (log.length - (gone log k s + 1).toNat) (gone log k s + 1).toNat = countFrom (fun i => (log.getD i Ev.no).frees k) (log.length - (gone log k s + 1).toNat) (gone log k s + 1).toNat :=
    countFrom_congr _ _ _ _ (fun j _ h2 => by rw [getD_old log e j (by omega)])
  rw [ec, show (gone log k s + 1).toNat + (log.length - (gone log k s + 1).toNat) = log.length by omega]
  rw [getD_new]
theorem since_new (log : List Ev) (e : Ev) (k s : Int) (h : gone (log ++ [e]) k s = (log.length : Int)) : since (log ++ [e]) k s = 0 := by
  unfold since
  rw [h, List.length_append, List.length_singleton, show log.length + 1 - ((log.length : Int) + 1).toNat = 0 by omega]
  rfl
end Ref
end Go.Proofs.YtjikemhmnkckcabGreat
