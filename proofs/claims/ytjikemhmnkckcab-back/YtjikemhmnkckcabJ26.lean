import Derived.Test.YtjikemhmnkckcabJ23
import Derived.Test.YtjikemhmnkckcabJ25
namespace Go.Proofs.Ytjikemhmnkckcab
open Go.RowKit

set_option maxRecDepth 100000 in
set_option maxHeartbeats 800000 in
theorem isTame_any (p : Int) (w : World) (_p1 : p ≤ 9223372036854775807) :
    Calls Try.prog 96 #[.int .i64 p] w fun e w' => e = .returned (.bool (Ref.tameB p)) ∧ w = w' := by
  cases ht : Ref.tameB p
  · have hno := tame_not ht
    clear ht
    by_cases h0 : p < 0
    · go_enter Try.func96, Try.ntmps96
      go_wp2
      all_goals
        go_ret
        exact ⟨rfl, rfl⟩
    · have h0' : 0 ≤ p := by omega
      by_cases h1 : 15 < p / 72057594037927936
      · go_enter Try.func96, Try.ntmps96
        go_wp2
        all_goals
          go_ret
          exact ⟨ret_bool (by simp <;> omega), rfl⟩
      · have h2 : 65535 < p % 72057594037927936 := by omega
        go_enter Try.func96, Try.ntmps96
        go_wp2
        all_goals
          go_ret
          exact ⟨ret_bool (by simp <;> omega), rfl⟩
  · obtain ⟨y0, y1, y2⟩ := (tame_iff p).1 ht
    clear ht
    go_enter Try.func96, Try.ntmps96
    go_wp2
    all_goals
      go_ret
      exact ⟨ret_bool (by simp <;> omega), rfl⟩

/-- what blockOf says of the slot that it has found -/
def gfound (x : GSlot) (t : Int) (k s : Nat) : Int × Int × Int :=
  if x.state = 2 ∨ x.tag ≠ t then (0, 0, 8) else if x.state = 4 then (0, 0, 9) else ((k : Int), (s : Int), 0)
def gblock (G : GSt) (cls : List (Int × Int)) (q : Int) : Int × Int × Int :=
  if Ref.tameB q = false then (0, 0, 5)
  else if (Cf.slot G.st cls (q % 72057594037927936)).1 < 0 then (0, 0, 8)
  else if Cf.begin_ G.st cls (Cf.slot G.st cls (q % 72057594037927936)).1.toNat (Cf.slot G.st cls (q % 72057594037927936)).2 ≠ q % 72057594037927936 then (0, 0, 8)
  else gfound (slotOf G (Cf.slot G.st cls (q % 72057594037927936)).1.toNat (Cf.slot G.st cls (q % 72057594037927936)).2.toNat) (q / 72057594037927936) (Cf.slot G.st cls (q % 72057594037927936)).1.toNat (Cf.slot G.st cls (q % 72057594037927936)).2.toNat
theorem gblock_at (G : GSt) (cls : List (Int × Int)) (q : Int) (k s : Nat) (ht : Ref.tameB q = true) (hs : Cf.slot G.st cls (q % 72057594037927936) = ((k : Int), (s : Int))) :
    gblock G cls q = if Cf.begin_ G.st cls k s ≠ q % 72057594037927936 then (0, 0, 8) else gfound (slotOf G k s) (q / 72057594037927936) k s := by
  unfold gblock
  rw [hs, if_neg (by rw [ht]; decide), if_neg (by simp)]
  rfl
theorem gblock_none (G : GSt) (cls : List (Int × Int)) (q : Int) (ht : Ref.tameB q = true) (hs : Cf.slot G.st cls (q % 72057594037927936) = (-1, -1)) : gblock G cls q = (0, 0, 8) := by
  unfold gblock
  rw [hs, if_neg (by rw [ht]; decide), if_pos (by decide)]
theorem gblock_wild (G : GSt) (cls : List (Int × Int)) (q : Int) (ht : Ref.tameB q = false) : gblock G cls q = (0, 0, 5) := if_pos ht

set_option maxRecDepth 100000 in
set_option maxHeartbeats 800000 in
theorem blockOf_wild (p : Nat) (G : GSt) (cls : List (Int × Int)) (q : Int) (w : World) (q1 : q ≤ 9223372036854775807) (ht : Ref.tameB q = false) :
    Calls Try.prog 84 #[.pointer (some ⟨p, 0, none⟩), .int .i64 q] w fun e w' => e = .returned (.tuple #[.int .i64 (gblock G cls q).1, .int .i64 (gblock G cls q).2.1, .int .i64 (gblock G cls q).2.2]) ∧ Below w.heap.size w w' := by
  rw [gblock_wild G cls q ht]
  go_enter Try.func84, Try.ntmps84
  go_wp2_with (go_at_call 96; refine (isTame_any _ _ q1).mono ?_; rw [ht]; rintro e1 w1 ⟨rfl, rfl⟩)
  go_ret3
  exact ⟨rfl, Below.refl _ _⟩

set_option maxRecDepth 100000 in
set_option maxHeartbeats 1600000 in
theorem blockOf_any (p : Nat) (vc : Value) (bb : Nat) (G : GSt) (rest : Int) (cls : List (Int × Int)) (q : Int) (w : World) (h : GRep w p vc bb G) (ho : GOk G rest cls) (q1 : q ≤ 9223372036854775807) (ht : Ref.tameB q = true) :
    Calls Try.prog 84 #[.pointer (some ⟨p, 0, none⟩), .int .i64 q] w fun e w' => e = .returned (.tuple #[.int .i64 (gblock G cls q).1, .int .i64 (gblock G cls q).2.1, .int .i64 (gblock G cls q).2.2]) ∧ Below w.heap.size w w' := by
  have HR : Hid (GRep w p vc bb G) := h
  have HO : Hid (GOk G rest cls) := ho
  have HTM : Hid (Ref.tameB q = true) := ht
  obtain ⟨y0, y1, y2⟩ := (tame_iff q).1 ht
  have a0 : -9223372036854775808 ≤ q % 72057594037927936 := by omega
  have a1 : q % 72057594037927936 ≤ 9223372036854775807 := by omega
  have hp := h.blk.lt
  have c2 := h.blk.cell (j := 2) rfl
  have n0 := ho.conf.n0
  have n1 := ho.conf.n1
  have hlen := ho.len
  obtain ⟨ac, cap, rfl, hcap, hmax, hrow⟩ := row_open h.cls
  obtain ⟨g, rfl, hgl, hcell, _⟩ := hrow (by omega)
  unfold maxLen at hmax
  have HC : Hid (∀ j u, (G.cs.flatMap gclsCells)[j]? = some u → w.cell? ⟨g, j, none⟩ = some u) := hcell
  have hl1 : G.cs.length ≤ 4 := by omega
  clear h ho hrow hcell
  rcases Cf.slot_bd G.st cls (q % 72057594037927936) with hsl | ⟨k, s, hsl, hk, hs2, _⟩
  · rw [gblock_none G cls q ht hsl]
    have HL : Hid (Cf.cslot G.st cls (q % 72057594037927936) = (-1, 0)) := Cf.cslot_no HO.out.conf _ hsl
    clear hsl hlen ht
    go_enter Try.func84, Try.ntmps84
    go_wp2_with (first
      | (go_at_call 96; refine (isTame_any _ _ q1).mono ?_; rw [HTM.out]; rintro e1 w1 ⟨rfl, rfl⟩)
      | (go_at_call 97; refine (slotAt_any p _ bb G rest cls _ _ HR.out HO.out a0 a1).mono ?_; rw [HL.out]; rintro e1 w2 ⟨rfl, hb2⟩))
    go_ret3
    exact ⟨rfl, hb2⟩
  · rw [gblock_at G cls q k s ht hsl]
    have HL : Hid (Cf.cslot G.st cls (q % 72057594037927936) = ((k : Int), (s : Int))) := Cf.cslot_yes HO.out.conf _ k s hsl
    have hkl : k < G.cs.length := by omega
    obtain ⟨d0, d1, d2⟩ := gcls_cells HC.out k hkl
    rw [HO.out.bg k hk] at d0
    rw [HO.out.by_ k hk] at d1
    have hsl2 := HO.out.sl k hk
    have g0 := HO.out.conf.g0 k hk
    have g1 := HO.out.conf.g1 k hk
    have s0 := HO.out.conf.s0 k hk
    have s1 := HO.out.conf.s1 k hk
    have hsn : s < (G.cs.getD k GCls.no).slots.length := by omega
    have gb := Cf.gran_bd HO.out.conf k (by omega)
    have pbd := Cf.prod_bd (a := (s : Int)) (b := Cf.gr cls k) (by omega) (by omega) (by omega) (by omega)
    have HBE : Hid (Cf.begin_ G.st cls k s = 16 * Cf.gran G.st cls k + (s : Int) * (16 * Cf.gr cls k)) := Cf.begin_eq _ _ _ _
    have PM : Hid (0 ≤ (s : Int) * (16 * Cf.gr cls k) ∧ (s : Int) * (16 * Cf.gr cls k) ≤ 1000000) := by
      rw [Int.mul_left_comm]; exact ⟨by omega, by omega⟩
    have hblk := HR.out.slots k hkl
    have hbl := hblk.lt
    obtain ⟨e0, e1, e2, e3, e4, e5⟩ := slot_cells hblk s hsn
    change w.cell? _ = some (.int .i64 (slotOf G k s).state) at e0
    change w.cell? _ = some (.int .i64 (slotOf G k s).tag) at e1
    change w.cell? _ = some (.int .i64 (slotOf G k s).bytes) at e2
    change w.cell? _ = some (.int .i64 (slotOf G k s).rest) at e3
    change w.cell? _ = some (.int .i64 (slotOf G k s).alloc) at e4
    change w.cell? _ = some (.int .i64 (slotOf G k s).gone) at e5
    generalize slotOf G k s = x at *
    generalize (G.cs.getD k GCls.no).slots.length = n at *
    generalize (G.cs.getD k GCls.no).sb = sb at *
    have hkI : (k : Int) < (G.cs.length : Int) := by omega
    have hsI : (s : Int) < (n : Int) := by omega
    clear hsl hlen hblk hsl2 ht
    cases hbeg : (Cf.begin_ G.st cls k s != q % 72057594037927936)
    · rw [if_neg (by rw [bne_eq_false_iff_eq] at hbeg; simp [hbeg])]
      have HX : Hid (gfound x (q / 72057594037927936) k s = if x.state = 2 ∨ x.tag ≠ q / 72057594037927936 then (0, 0, 8) else if x.state = 4 then (0, 0, 9) else ((k : Int), (s : Int), 0)) := rfl
      have HGH : Hid (ghad x (q / 72057594037927936) = (x.state != 2 && x.tag == q / 72057594037927936)) := rfl
      cases z1 : ghad x (q / 72057594037927936)
      · have HZ1 := hide2 z1
        have hfin : Hid (gfound x (q / 72057594037927936) k s = (0, 0, 8)) := by
          show _ = _
          rw [HGH.out] at z1
          rw [HX.out, if_pos (by simp at z1; omega)]
        rw [hfin.out]
        clear HX HGH z1
        go_enter Try.func84, Try.ntmps84
        go_wp2_with fail
        refine (isTame_any _ _ q1).mono ?_
        rw [HTM.out]
        rintro e1 w1 ⟨rfl, hw1⟩
        subst hw1
        go_wp2_with fail
        refine (slotAt_any p _ bb G rest cls _ _ HR.out HO.out a0 a1).mono ?_
        rw [HL.out]
        rintro e1 w2 ⟨rfl, hb2⟩
        have c2' := (hb2.cell (p := ⟨p, 2, none⟩) hp).trans c2
        have d0' := (hb2.cell (p := ⟨g, k * 3, none⟩) hgl).trans d0
        have d1' := (hb2.cell (p := ⟨g, k * 3 + 1, none⟩) hgl).trans d1
        go_wp2_with fail
        refine (slotBegin_any g (k * 3) (16 * Cf.gran G.st cls k) (16 * Cf.gr cls k) (s : Int) _ d0' d1' (by omega) (by omega) PM.out.1 PM.out.2).mono ?_
        rw [← HBE.out]
        rintro e1 w3 ⟨rfl, hb3'⟩
        have hb3 := hb2.trans (hb3'.mono hb2.size)
        clear hb3' c2' d0' d1'
        have c2'' := (hb3.cell (p := ⟨p, 2, none⟩) hp).trans c2
        have d2'' := (hb3.cell (p := ⟨g, k * 3 + 2, none⟩) hgl).trans d2
        have e0'' := (hb3.cell (p := ⟨sb, s * 6, none⟩) hbl).trans e0
        have e1'' := (hb3.cell (p := ⟨sb, s * 6 + 1, none⟩) hbl).trans e1
        have e2'' := (hb3.cell (p := ⟨sb, s * 6 + 2, none⟩) hbl).trans e2
        have e3'' := (hb3.cell (p := ⟨sb, s * 6 + 3, none⟩) hbl).trans e3
        have e4'' := (hb3.cell (p := ⟨sb, s * 6 + 4, none⟩) hbl).trans e4
        have e5'' := (hb3.cell (p := ⟨sb, s * 6 + 5, none⟩) hbl).trans e5
        go_wp2_with fail
        have hsc : Blk (w3.alloc (.cells #[.int .i64 x.state, .int .i64 x.tag, .int .i64 x.bytes, .int .i64 x.rest, .int .i64 x.alloc, .int .i64 x.gone] 97)) w3.heap.size 97 [.int .i64 x.state, .int .i64 x.tag, .int .i64 x.bytes, .int .i64 x.rest, .int .i64 x.alloc, .int .i64 x.gone] := Blk.alloc w3 _ _
        have hst0 := hsc.cell (j := 0) rfl
        have hs4 := hsc.lt
        have hb3a := hb3.alloc hb3.size (.cells #[.int .i64 x.state, .int .i64 x.tag, .int .i64 x.bytes, .int .i64 x.rest, .int .i64 x.alloc, .int .i64 x.gone] 97)
        generalize (w3.alloc (.cells #[.int .i64 x.state, .int .i64 x.tag, .int .i64 x.bytes, .int .i64 x.rest, .int .i64 x.alloc, .int .i64 x.gone] 97)) = w4 at *
        refine (had_any x (q / 72057594037927936) w4).mono ?_
        rw [HZ1.out]
        rintro e1 w5 ⟨rfl, hb5⟩
        have hst := (hb5.cell (p := ⟨w3.heap.size, 0, none⟩) hs4).trans hst0
        have hb := hb3a.trans (hb5.mono hb3a.size)
        clear hst0 hb5 hb3a hsc
        go_wp2
        all_goals
          go_ret3
          exact ⟨rfl, hb⟩
      · have HZ1 := hide2 z1
        have hx : ¬ (x.state = 2 ∨ x.tag ≠ q / 72057594037927936) := by
          rw [HGH.out] at z1
          simp at z1; omega
        cases z3 : (x.state == 4)
        · have hfin : Hid (gfound x (q / 72057594037927936) k s = ((k : Int), (s : Int), 0)) := by
            show _ = _
            rw [beq_eq_false_iff_ne] at z3
            rw [HX.out, if_neg hx, if_neg z3]
          rw [hfin.out]
          clear HX HGH z1 hx
          go_enter Try.func84, Try.ntmps84
          go_wp2_with fail
          refine (isTame_any _ _ q1).mono ?_
          rw [HTM.out]
          rintro e1 w1 ⟨rfl, hw1⟩
          subst hw1
          go_wp2_with fail
          refine (slotAt_any p _ bb G rest cls _ _ HR.out HO.out a0 a1).mono ?_
          rw [HL.out]
          rintro e1 w2 ⟨rfl, hb2⟩
          have c2' := (hb2.cell (p := ⟨p, 2, none⟩) hp).trans c2
          have d0' := (hb2.cell (p := ⟨g, k * 3, none⟩) hgl).trans d0
          have d1' := (hb2.cell (p := ⟨g, k * 3 + 1, none⟩) hgl).trans d1
          go_wp2_with fail
          refine (slotBegin_any g (k * 3) (16 * Cf.gran G.st cls k) (16 * Cf.gr cls k) (s : Int) _ d0' d1' (by omega) (by omega) PM.out.1 PM.out.2).mono ?_
          rw [← HBE.out]
          rintro e1 w3 ⟨rfl, hb3'⟩
          have hb3 := hb2.trans (hb3'.mono hb2.size)
          clear hb3' c2' d0' d1'
          have c2'' := (hb3.cell (p := ⟨p, 2, none⟩) hp).trans c2
          have d2'' := (hb3.cell (p := ⟨g, k * 3 + 2, none⟩) hgl).trans d2
          have e0'' := (hb3.cell (p := ⟨sb, s * 6, none⟩) hbl).trans e0
          have e1'' := (hb3.cell (p := ⟨sb, s * 6 + 1, none⟩) hbl).trans e1
          have e2'' := (hb3.cell (p := ⟨sb, s * 6 + 2, none⟩) hbl).trans e2
          have e3'' := (hb3.cell (p := ⟨sb, s * 6 + 3, none⟩) hbl).trans e3
          have e4'' := (hb3.cell (p := ⟨sb, s * 6 + 4, none⟩) hbl).trans e4
          have e5'' := (hb3.cell (p := ⟨sb, s * 6 + 5, none⟩) hbl).trans e5
          go_wp2_with fail
          have hsc : Blk (w3.alloc (.cells #[.int .i64 x.state, .int .i64 x.tag, .int .i64 x.bytes, .int .i64 x.rest, .int .i64 x.alloc, .int .i64 x.gone] 97)) w3.heap.size 97 [.int .i64 x.state, .int .i64 x.tag, .int .i64 x.bytes, .int .i64 x.rest, .int .i64 x.alloc, .int .i64 x.gone] := Blk.alloc w3 _ _
          have hst0 := hsc.cell (j := 0) rfl
          have hs4 := hsc.lt
          have hb3a := hb3.alloc hb3.size (.cells #[.int .i64 x.state, .int .i64 x.tag, .int .i64 x.bytes, .int .i64 x.rest, .int .i64 x.alloc, .int .i64 x.gone] 97)
          generalize (w3.alloc (.cells #[.int .i64 x.state, .int .i64 x.tag, .int .i64 x.bytes, .int .i64 x.rest, .int .i64 x.alloc, .int .i64 x.gone] 97)) = w4 at *
          refine (had_any x (q / 72057594037927936) w4).mono ?_
          rw [HZ1.out]
          rintro e1 w5 ⟨rfl, hb5⟩
          have hst := (hb5.cell (p := ⟨w3.heap.size, 0, none⟩) hs4).trans hst0
          have hb := hb3a.trans (hb5.mono hb3a.size)
          clear hst0 hb5 hb3a hsc
          go_wp2
          all_goals
            go_ret3
            exact ⟨rfl, hb⟩
        · have hfin : Hid (gfound x (q / 72057594037927936) k s = (0, 0, 9)) := by
            show _ = _
            rw [HX.out, if_neg hx, if_pos (by simpa using z3)]
          rw [hfin.out]
          clear HX HGH z1 hx
          go_enter Try.func84, Try.ntmps84
          go_wp2_with fail
          refine (isTame_any _ _ q1).mono ?_
          rw [HTM.out]
          rintro e1 w1 ⟨rfl, hw1⟩
          subst hw1
          go_wp2_with fail
          refine (slotAt_any p _ bb G rest cls _ _ HR.out HO.out a0 a1).mono ?_
          rw [HL.out]
          rintro e1 w2 ⟨rfl, hb2⟩
          have c2' := (hb2.cell (p := ⟨p, 2, none⟩) hp).trans c2
          have d0' := (hb2.cell (p := ⟨g, k * 3, none⟩) hgl).trans d0
          have d1' := (hb2.cell (p := ⟨g, k * 3 + 1, none⟩) hgl).trans d1
          go_wp2_with fail
          refine (slotBegin_any g (k * 3) (16 * Cf.gran G.st cls k) (16 * Cf.gr cls k) (s : Int) _ d0' d1' (by omega) (by omega) PM.out.1 PM.out.2).mono ?_
          rw [← HBE.out]
          rintro e1 w3 ⟨rfl, hb3'⟩
          have hb3 := hb2.trans (hb3'.mono hb2.size)
          clear hb3' c2' d0' d1'
          have c2'' := (hb3.cell (p := ⟨p, 2, none⟩) hp).trans c2
          have d2'' := (hb3.cell (p := ⟨g, k * 3 + 2, none⟩) hgl).trans d2
          have e0'' := (hb3.cell (p := ⟨sb, s * 6, none⟩) hbl).trans e0
          have e1'' := (hb3.cell (p := ⟨sb, s * 6 + 1, none⟩) hbl).trans e1
          have e2'' := (hb3.cell (p := ⟨sb, s * 6 + 2, none⟩) hbl).trans e2
          have e3'' := (hb3.cell (p := ⟨sb, s * 6 + 3, none⟩) hbl).trans e3
          have e4'' := (hb3.cell (p := ⟨sb, s * 6 + 4, none⟩) hbl).trans e4
          have e5'' := (hb3.cell (p := ⟨sb, s * 6 + 5, none⟩) hbl).trans e5
          go_wp2_with fail
          have hsc : Blk (w3.alloc (.cells #[.int .i64 x.state, .int .i64 x.tag, .int .i64 x.bytes, .int .i64 x.rest, .int .i64 x.alloc, .int .i64 x.gone] 97)) w3.heap.size 97 [.int .i64 x.state, .int .i64 x.tag, .int .i64 x.bytes, .int .i64 x.rest, .int .i64 x.alloc, .int .i64 x.gone] := Blk.alloc w3 _ _
          have hst0 := hsc.cell (j := 0) rfl
          have hs4 := hsc.lt
          have hb3a := hb3.alloc hb3.size (.cells #[.int .i64 x.state, .int .i64 x.tag, .int .i64 x.bytes, .int .i64 x.rest, .int .i64 x.alloc, .int .i64 x.gone] 97)
          generalize (w3.alloc (.cells #[.int .i64 x.state, .int .i64 x.tag, .int .i64 x.bytes, .int .i64 x.rest, .int .i64 x.alloc, .int .i64 x.gone] 97)) = w4 at *
          refine (had_any x (q / 72057594037927936) w4).mono ?_
          rw [HZ1.out]
          rintro e1 w5 ⟨rfl, hb5⟩
          have hst := (hb5.cell (p := ⟨w3.heap.size, 0, none⟩) hs4).trans hst0
          have hb := hb3a.trans (hb5.mono hb3a.size)
          clear hst0 hb5 hb3a hsc
          go_wp2
          all_goals
            go_ret3
            exact ⟨rfl, hb⟩
    · rw [if_pos (by rw [bne_iff_ne] at hbeg; exact hbeg)]
      go_enter Try.func84, Try.ntmps84
      go_wp2_with fail
      refine (isTame_any _ _ q1).mono ?_
      rw [HTM.out]
      rintro e1 w1 ⟨rfl, hw1⟩
      subst hw1
      go_wp2_with fail
      refine (slotAt_any p _ bb G rest cls _ _ HR.out HO.out a0 a1).mono ?_
      rw [HL.out]
      rintro e1 w2 ⟨rfl, hb2⟩
      have c2' := (hb2.cell (p := ⟨p, 2, none⟩) hp).trans c2
      have d0' := (hb2.cell (p := ⟨g, k * 3, none⟩) hgl).trans d0
      have d1' := (hb2.cell (p := ⟨g, k * 3 + 1, none⟩) hgl).trans d1
      go_wp2_with fail
      refine (slotBegin_any g (k * 3) (16 * Cf.gran G.st cls k) (16 * Cf.gr cls k) (s : Int) _ d0' d1' (by omega) (by omega) PM.out.1 PM.out.2).mono ?_
      rw [← HBE.out]
      rintro e1 w3 ⟨rfl, hb3'⟩
      have hb3 := hb2.trans (hb3'.mono hb2.size)
      clear hb3' c2' d0' d1'
      have c2'' := (hb3.cell (p := ⟨p, 2, none⟩) hp).trans c2
      have d2'' := (hb3.cell (p := ⟨g, k * 3 + 2, none⟩) hgl).trans d2
      have e0'' := (hb3.cell (p := ⟨sb, s * 6, none⟩) hbl).trans e0
      have e1'' := (hb3.cell (p := ⟨sb, s * 6 + 1, none⟩) hbl).trans e1
      have e2'' := (hb3.cell (p := ⟨sb, s * 6 + 2, none⟩) hbl).trans e2
      have e3'' := (hb3.cell (p := ⟨sb, s * 6 + 3, none⟩) hbl).trans e3
      have e4'' := (hb3.cell (p := ⟨sb, s * 6 + 4, none⟩) hbl).trans e4
      have e5'' := (hb3.cell (p := ⟨sb, s * 6 + 5, none⟩) hbl).trans e5
      go_wp2
      all_goals
        go_ret3
        first
          | exact ⟨rfl, hb3.alloc hb3.size _⟩
          | exact ⟨rfl, hb3⟩
end Go.Proofs.Ytjikemhmnkckcab
