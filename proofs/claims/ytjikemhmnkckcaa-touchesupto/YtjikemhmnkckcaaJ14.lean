import Derived.Test.YtjikemhmnkckcaaJ13
namespace Go.Proofs.Ytjikemhmnkckcaa
open Go.RowKit

def slotOf (G : GSt) (k s : Nat) : GSlot := (G.cs.getD k GCls.no).slots.getD s GSlot.no
def gtag (G : GSt) (cls : List (Int × Int)) (addr : Int) : Int :=
  if 16 ≤ addr ∧ addr < 16 * (1 + G.st) then 0
  else if (Cf.slot G.st cls addr).1 < 0 then -1
  else if (slotOf G (Cf.slot G.st cls addr).1.toNat (Cf.slot G.st cls addr).2.toNat).state = 3 ∧ addr < Cf.begin_ G.st cls (Cf.slot G.st cls addr).1.toNat (Cf.slot G.st cls addr).2 + (slotOf G (Cf.slot G.st cls addr).1.toNat (Cf.slot G.st cls addr).2.toNat).bytes
  then (slotOf G (Cf.slot G.st cls addr).1.toNat (Cf.slot G.st cls addr).2.toNat).tag else 15

/-- the numbers in the slots are small -/
def GBd (G : GSt) : Prop := ∀ k s, 0 ≤ (slotOf G k s).bytes ∧ (slotOf G k s).bytes ≤ 128

set_option maxRecDepth 100000 in
set_option maxHeartbeats 1600000 in
theorem gtag_any (p : Nat) (vc : Value) (bb : Nat) (G : GSt) (rest : Int) (cls : List (Int × Int)) (addr : Int) (w : World) (h : GRep w p vc bb G) (ho : GOk G rest cls) (hbd : GBd G) (a0 : -9223372036854775808 ≤ addr) (a1 : addr ≤ 9223372036854775807) :
    Calls Try.prog 16 #[.pointer (some ⟨p, 0, none⟩), .int .i64 addr] w fun e w' => e = .returned (.int .i64 (gtag G cls addr)) ∧ Below w.heap.size w w' := by
  have HR : Hid (GRep w p vc bb G) := h
  have HO : Hid (GOk G rest cls) := ho
  have hp := h.blk.lt
  have c2 := h.blk.cell (j := 2) rfl
  have b0 := ho.conf.st0
  have b1 := ho.conf.st1
  have n0 := ho.conf.n0
  have n1 := ho.conf.n1
  have hlen := ho.len
  obtain ⟨ac, cap, rfl, hcap, hmax, hrow⟩ := row_open h.cls
  obtain ⟨g, rfl, hgl, hcell, _⟩ := hrow (by omega)
  unfold maxLen at hmax
  have HC : Hid (∀ j u, (G.cs.flatMap gclsCells)[j]? = some u → w.cell? ⟨g, j, none⟩ = some u) := hcell
  have HB : Hid (GBd G) := hbd
  have hl1 : G.cs.length ≤ 4 := by omega
  have htag : Hid (gtag G cls addr = if 16 ≤ addr ∧ addr < 16 * (1 + G.st) then 0
    else if (Cf.slot G.st cls addr).1 < 0 then -1
    else if (slotOf G (Cf.slot G.st cls addr).1.toNat (Cf.slot G.st cls addr).2.toNat).state = 3 ∧ addr < Cf.begin_ G.st cls (Cf.slot G.st cls addr).1.toNat (Cf.slot G.st cls addr).2 + (slotOf G (Cf.slot G.st cls addr).1.toNat (Cf.slot G.st cls addr).2.toNat).bytes
    then (slotOf G (Cf.slot G.st cls addr).1.toNat (Cf.slot G.st cls addr).2.toNat).tag else 15) := rfl
  clear h ho hrow hcell hbd
  by_cases hs : 16 ≤ addr ∧ addr < 16 * (1 + G.st)
  · have hfin : Hid (gtag G cls addr = 0) := by show _ = _; rw [htag.out, if_pos hs]
    have HS : Hid ((decide (16 ≤ addr) && decide (addr < 16 * (1 + G.st))) = true) := by show _ = _; simp [hs]
    clear htag hs hlen
    go_enter Try.func16, Try.ntmps16
    go_wp2_with (go_at_call 41; refine (inStatic_any p _ bb G addr _ HR.out b0 b1).mono ?_; rw [HS.out]; rintro e1 w1 ⟨rfl, rfl⟩)
    go_ret
    exact ⟨ret_int hfin.out.symm, Below.refl _ _⟩
  · have HS : Hid ((decide (16 ≤ addr) && decide (addr < 16 * (1 + G.st))) = false) := by show _ = _; simpa using hs
    have htag2 := htag.out
    rw [if_neg hs] at htag2
    clear htag hs
    rcases Cf.slot_bd G.st cls addr with hsl | ⟨k, s, hsl, hk, hs2, _⟩
    · have hfin : Hid (gtag G cls addr = -1) := by show _ = _; rw [htag2, hsl]; rfl
      have HL : Hid (Cf.cslot G.st cls addr = (-1, 0)) := Cf.cslot_no HO.out.conf addr hsl
      clear htag2 hsl hlen
      go_enter Try.func16, Try.ntmps16
      go_wp2_with (first
        | (go_at_call 41; refine (inStatic_any p _ bb G addr _ HR.out b0 b1).mono ?_; rw [HS.out]; rintro e1 w1 ⟨rfl, rfl⟩)
        | (go_at_call 42; refine (slotAt_any p _ bb G rest cls addr _ HR.out HO.out a0 a1).mono ?_; rw [HL.out]; rintro e1 w2 ⟨rfl, hb2⟩))
      go_ret
      exact ⟨ret_int hfin.out.symm, hb2⟩
    · have hfin : Hid (gtag G cls addr = if (slotOf G k s).state = 3 ∧ addr < Cf.begin_ G.st cls k s + (slotOf G k s).bytes then (slotOf G k s).tag else 15) := by
        show _ = _; rw [htag2, hsl, if_neg (by simp)]; rfl
      have HL : Hid (Cf.cslot G.st cls addr = ((k : Int), (s : Int))) := Cf.cslot_yes HO.out.conf addr k s hsl
      have hkl : k < G.cs.length := by omega
      obtain ⟨d0, d1, d2⟩ := gcls_cells HC.out k hkl
      rw [HO.out.bg k hk] at d0
      rw [HO.out.by_ k hk] at d1
      have hsl2 := HO.out.sl k hk
      have g0 := HO.out.conf.g0 k hk
      have g1 := HO.out.conf.g1 k hk
      have s0 := HO.out.conf.s0 k hk
      have s1 := HO.out.conf.s1 k hk
      have hsn : s < (G.cs.getD k GCls.no).slots.length := by omega
      have gb := Cf.gran_bd HO.out.conf k (by omega)
      have pbd := Cf.prod_bd (a := (s : Int)) (b := Cf.gr cls k) (by omega) (by omega) (by omega) (by omega)
      have bd := Cf.begin_bd HO.out.conf k hk s (by omega) (by omega)
      have HBE : Hid (Cf.begin_ G.st cls k s = 16 * Cf.gran G.st cls k + (s : Int) * (16 * Cf.gr cls k)) := Cf.begin_eq _ _ _ _
      have PM : Hid (0 ≤ (s : Int) * (16 * Cf.gr cls k) ∧ (s : Int) * (16 * Cf.gr cls k) ≤ 1000000) := by
        rw [Int.mul_left_comm]; exact ⟨by omega, by omega⟩
      have hblk := HR.out.slots k hkl
      have hbl := hblk.lt
      obtain ⟨e0, e1, e2, e3, e4, e5⟩ := slot_cells hblk s hsn
      have hx := HB.out k s
      change w.cell? _ = some (.int .i64 (slotOf G k s).state) at e0
      change w.cell? _ = some (.int .i64 (slotOf G k s).tag) at e1
      change w.cell? _ = some (.int .i64 (slotOf G k s).bytes) at e2
      change w.cell? _ = some (.int .i64 (slotOf G k s).rest) at e3
      change w.cell? _ = some (.int .i64 (slotOf G k s).alloc) at e4
      change w.cell? _ = some (.int .i64 (slotOf G k s).gone) at e5
      generalize slotOf G k s = x at *
      generalize (G.cs.getD k GCls.no).slots.length = n at *
      generalize (G.cs.getD k GCls.no).sb = sb at *
      have hkI : (k : Int) < (G.cs.length : Int) := by omega
      have hsI : (s : Int) < (n : Int) := by omega
      obtain ⟨x1, x2⟩ := hx
      clear htag2 hsl hlen hblk hsl2
      cases hst : (x.state == 3)
      · have hfin2 : Hid (gtag G cls addr = 15) := by
          show _ = _; rw [hfin.out, if_neg (by rw [beq_eq_false_iff_ne] at hst; exact fun h => hst h.1)]
        go_enter Try.func16, Try.ntmps16
        go_wp2_with fail
        refine (inStatic_any p _ bb G addr _ HR.out b0 b1).mono ?_
        rw [HS.out]
        rintro e1 w1 ⟨rfl, rfl⟩
        go_wp2_with fail
        refine (slotAt_any p _ bb G rest cls addr _ HR.out HO.out a0 a1).mono ?_
        rw [HL.out]
        rintro e1 w2 ⟨rfl, hb2⟩
        have c2' := (hb2.cell (p := ⟨p, 2, none⟩) hp).trans c2
        have d0' := (hb2.cell (p := ⟨g, k * 3, none⟩) hgl).trans d0
        have d1' := (hb2.cell (p := ⟨g, k * 3 + 1, none⟩) hgl).trans d1
        have d2' := (hb2.cell (p := ⟨g, k * 3 + 2, none⟩) hgl).trans d2
        have e0' := (hb2.cell (p := ⟨sb, s * 6, none⟩) hbl).trans e0
        have e1' := (hb2.cell (p := ⟨sb, s * 6 + 1, none⟩) hbl).trans e1
        have e2' := (hb2.cell (p := ⟨sb, s * 6 + 2, none⟩) hbl).trans e2
        have e3' := (hb2.cell (p := ⟨sb, s * 6 + 3, none⟩) hbl).trans e3
        have e4' := (hb2.cell (p := ⟨sb, s * 6 + 4, none⟩) hbl).trans e4
        have e5' := (hb2.cell (p := ⟨sb, s * 6 + 5, none⟩) hbl).trans e5
        have hpl : p < w2.heap.size := Nat.lt_of_lt_of_le hp hb2.size
        have hgl2 : g < w2.heap.size := Nat.lt_of_lt_of_le hgl hb2.size
        clear c2 d0 d1 d2 e0 e1 e2 e3 e4 e5
        go_wp2_with fail
        refine (slotBegin_any g (k * 3) (16 * Cf.gran G.st cls k) (16 * Cf.gr cls k) (s : Int) _ ((World.cell?_alloc_lt _ _ _ hgl2).trans d0') ((World.cell?_alloc_lt _ _ _ hgl2).trans d1') (by omega) (by omega) PM.out.1 PM.out.2).mono ?_
        rw [← HBE.out]
        rintro e1 w3 ⟨rfl, hb3⟩
        have q0 := (hb3.cell (p := ⟨w2.heap.size, 0, none⟩) (by simp)).trans (World.cell?_alloc_new _ _ _ _)
        have q1 := (hb3.cell (p := ⟨w2.heap.size, 1, none⟩) (by simp)).trans (World.cell?_alloc_new _ _ _ _)
        have q2 := (hb3.cell (p := ⟨w2.heap.size, 2, none⟩) (by simp)).trans (World.cell?_alloc_new _ _ _ _)
        have hbw : Hid (Below w1.heap.size w1 w3) := (hb2.alloc hb2.size _).trans (hb3.mono (by rw [World.size_alloc]; have := hb2.size; omega))
        clear hb3 c2' d0' d1' d2' e0' e1' e2' e3' e4' e5'
        go_wp2
        all_goals
          go_ret
          exact ⟨ret_int hfin2.out.symm, hbw.out⟩
      · have hst3 : x.state = 3 := by simpa using hst
        by_cases hlt : addr < Cf.begin_ G.st cls k s + x.bytes
        · have hfin2 : Hid (gtag G cls addr = x.tag) := by show _ = _; rw [hfin.out, if_pos ⟨hst3, hlt⟩]
          clear hst3
          go_enter Try.func16, Try.ntmps16
          go_wp2_with fail
          refine (inStatic_any p _ bb G addr _ HR.out b0 b1).mono ?_
          rw [HS.out]
          rintro e1 w1 ⟨rfl, rfl⟩
          go_wp2_with fail
          refine (slotAt_any p _ bb G rest cls addr _ HR.out HO.out a0 a1).mono ?_
          rw [HL.out]
          rintro e1 w2 ⟨rfl, hb2⟩
          have c2' := (hb2.cell (p := ⟨p, 2, none⟩) hp).trans c2
          have d0' := (hb2.cell (p := ⟨g, k * 3, none⟩) hgl).trans d0
          have d1' := (hb2.cell (p := ⟨g, k * 3 + 1, none⟩) hgl).trans d1
          have d2' := (hb2.cell (p := ⟨g, k * 3 + 2, none⟩) hgl).trans d2
          have e0' := (hb2.cell (p := ⟨sb, s * 6, none⟩) hbl).trans e0
          have e1' := (hb2.cell (p := ⟨sb, s * 6 + 1, none⟩) hbl).trans e1
          have e2' := (hb2.cell (p := ⟨sb, s * 6 + 2, none⟩) hbl).trans e2
          have e3' := (hb2.cell (p := ⟨sb, s * 6 + 3, none⟩) hbl).trans e3
          have e4' := (hb2.cell (p := ⟨sb, s * 6 + 4, none⟩) hbl).trans e4
          have e5' := (hb2.cell (p := ⟨sb, s * 6 + 5, none⟩) hbl).trans e5
          have hpl : p < w2.heap.size := Nat.lt_of_lt_of_le hp hb2.size
          have hgl2 : g < w2.heap.size := Nat.lt_of_lt_of_le hgl hb2.size
          clear c2 d0 d1 d2 e0 e1 e2 e3 e4 e5
          go_wp2_with fail
          refine (slotBegin_any g (k * 3) (16 * Cf.gran G.st cls k) (16 * Cf.gr cls k) (s : Int) _ ((World.cell?_alloc_lt _ _ _ hgl2).trans d0') ((World.cell?_alloc_lt _ _ _ hgl2).trans d1') (by omega) (by omega) PM.out.1 PM.out.2).mono ?_
          rw [← HBE.out]
          rintro e1 w3 ⟨rfl, hb3⟩
          have q0 := (hb3.cell (p := ⟨w2.heap.size, 0, none⟩) (by simp)).trans (World.cell?_alloc_new _ _ _ _)
          have q1 := (hb3.cell (p := ⟨w2.heap.size, 1, none⟩) (by simp)).trans (World.cell?_alloc_new _ _ _ _)
          have q2 := (hb3.cell (p := ⟨w2.heap.size, 2, none⟩) (by simp)).trans (World.cell?_alloc_new _ _ _ _)
          have hbw : Hid (Below w1.heap.size w1 w3) := (hb2.alloc hb2.size _).trans (hb3.mono (by rw [World.size_alloc]; have := hb2.size; omega))
          clear hb3 c2' d0' d1' d2' e0' e1' e2' e3' e4' e5'
          go_wp2
          go_ret
          exact ⟨ret_int hfin2.out.symm, hbw.out⟩
        · have hfin2 : Hid (gtag G cls addr = 15) := by show _ = _; rw [hfin.out, if_neg (fun h => hlt h.2)]
          clear hst3
          go_enter Try.func16, Try.ntmps16
          go_wp2_with fail
          refine (inStatic_any p _ bb G addr _ HR.out b0 b1).mono ?_
          rw [HS.out]
          rintro e1 w1 ⟨rfl, rfl⟩
          go_wp2_with fail
          refine (slotAt_any p _ bb G rest cls addr _ HR.out HO.out a0 a1).mono ?_
          rw [HL.out]
          rintro e1 w2 ⟨rfl, hb2⟩
          have c2' := (hb2.cell (p := ⟨p, 2, none⟩) hp).trans c2
          have d0' := (hb2.cell (p := ⟨g, k * 3, none⟩) hgl).trans d0
          have d1' := (hb2.cell (p := ⟨g, k * 3 + 1, none⟩) hgl).trans d1
          have d2' := (hb2.cell (p := ⟨g, k * 3 + 2, none⟩) hgl).trans d2
          have e0' := (hb2.cell (p := ⟨sb, s * 6, none⟩) hbl).trans e0
          have e1' := (hb2.cell (p := ⟨sb, s * 6 + 1, none⟩) hbl).trans e1
          have e2' := (hb2.cell (p := ⟨sb, s * 6 + 2, none⟩) hbl).trans e2
          have e3' := (hb2.cell (p := ⟨sb, s * 6 + 3, none⟩) hbl).trans e3
          have e4' := (hb2.cell (p := ⟨sb, s * 6 + 4, none⟩) hbl).trans e4
          have e5' := (hb2.cell (p := ⟨sb, s * 6 + 5, none⟩) hbl).trans e5
          have hpl : p < w2.heap.size := Nat.lt_of_lt_of_le hp hb2.size
          have hgl2 : g < w2.heap.size := Nat.lt_of_lt_of_le hgl hb2.size
          clear c2 d0 d1 d2 e0 e1 e2 e3 e4 e5
          go_wp2_with fail
          refine (slotBegin_any g (k * 3) (16 * Cf.gran G.st cls k) (16 * Cf.gr cls k) (s : Int) _ ((World.cell?_alloc_lt _ _ _ hgl2).trans d0') ((World.cell?_alloc_lt _ _ _ hgl2).trans d1') (by omega) (by omega) PM.out.1 PM.out.2).mono ?_
          rw [← HBE.out]
          rintro e1 w3 ⟨rfl, hb3⟩
          have q0 := (hb3.cell (p := ⟨w2.heap.size, 0, none⟩) (by simp)).trans (World.cell?_alloc_new _ _ _ _)
          have q1 := (hb3.cell (p := ⟨w2.heap.size, 1, none⟩) (by simp)).trans (World.cell?_alloc_new _ _ _ _)
          have q2 := (hb3.cell (p := ⟨w2.heap.size, 2, none⟩) (by simp)).trans (World.cell?_alloc_new _ _ _ _)
          have hbw : Hid (Below w1.heap.size w1 w3) := (hb2.alloc hb2.size _).trans (hb3.mono (by rw [World.size_alloc]; have := hb2.size; omega))
          clear hb3 c2' d0' d1' d2' e0' e1' e2' e3' e4' e5'
          go_wp2
          go_ret
          exact ⟨ret_int hfin2.out.symm, hbw.out⟩
end Go.Proofs.Ytjikemhmnkckcaa
