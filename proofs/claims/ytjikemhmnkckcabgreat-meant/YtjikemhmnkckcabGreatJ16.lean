import Derived.Test.YtjikemhmnkckcabGreatJ15
namespace Go.Proofs.YtjikemhmnkckcabGreat
open Go.RowKit
set_option maxRecDepth 100000 in
set_option maxHeartbeats 800000 in
theorem isTame_any (p : Int) (w : World) (_p1 : p ≤ 9223372036854775807) :
 Calls Tryz.prog 156 #[.int .i64 p] w fun e w' => e = .returned (.bool (Ref.tameB p)) ∧ w = w' := by
 cases ht : Ref.tameB p
 ·have hno := tame_not ht;clear ht
  by_cases h0 : p < 0
  ·go_enter Tryz.func156, Tryz.ntmps156;go_wp2
   all_goals
    go_ret;exact ⟨rfl, rfl⟩
  ·have h0' : 0 ≤ p := by omega
   by_cases h1 : 15 < p / 72057594037927936
   ·go_enter Tryz.func156, Tryz.ntmps156;go_wp2
    all_goals
     go_ret;exact ⟨ret_bool (by simp <;> omega), rfl⟩
   ·have h2 : 65535 < p % 72057594037927936 := by omega
    go_enter Tryz.func156, Tryz.ntmps156;go_wp2
    all_goals
     go_ret;exact ⟨ret_bool (by simp <;> omega), rfl⟩
 ·obtain ⟨y0, y1, y2⟩ := (tame_iff p).1 ht;clear ht;go_enter Tryz.func156, Tryz.ntmps156;go_wp2
  all_goals
   go_ret;exact ⟨ret_bool (by simp <;> omega), rfl⟩
def gfound (x : GSlot) (t : Int) (k s : Nat) : Int × Int × Int :=
 if x.state = 2 ∨ x.tag ≠ t then (0, 0, 8) else if x.state = 4 then (0, 0, 9) else ((k : Int), (s : Int), 0)
def gblock (G : GSt) (cls : List (Int × Int)) (q : Int) : Int × Int × Int :=
 if Ref.tameB q = false then (0, 0, 5)
 else if (Cf.slot G.st cls (q % 72057594037927936)).1 < 0 then (0, 0, 8)
 else if Cf.begin_ G.st cls (Cf.slot G.st cls (q % 72057594037927936)).1.toNat (Cf.slot G.st cls (q % 72057594037927936)).2 ≠ q % 72057594037927936 then (0, 0, 8)
 else gfound (slotOf G (Cf.slot G.st cls (q % 72057594037927936)).1.toNat (Cf.slot G.st cls (q % 72057594037927936)).2.toNat) (q / 72057594037927936) (Cf.slot G.st cls (q % 72057594037927936)).1.toNat (Cf.slot G.st cls (q % 72057594037927936)).2.toNat
theorem gblock_at (G : GSt) (cls : List (Int × Int)) (q : Int) (k s : Nat) (ht : Ref.tameB q = true) (hs : Cf.slot G.st cls (q % 72057594037927936) = ((k : Int), (s : Int))) :
 gblock G cls q = if Cf.begin_ G.st cls k s ≠ q % 72057594037927936 then (0, 0, 8) else gfound (slotOf G k s) (q / 72057594037927936) k s := by
 unfold gblock;rw [hs, if_neg (by rw [ht]; decide), if_neg (by simp)];rfl
theorem gblock_none (G : GSt) (cls : List (Int × Int)) (q : Int) (ht : Ref.tameB q = true) (hs : Cf.slot G.st cls (q % 72057594037927936) = (-1, -1)) : gblock G cls q = (0, 0, 8) := by
 unfold gblock;rw [hs, if_neg (by rw [ht]; decide), if_pos (by decide)]
theorem gblock_wild (G : GSt) (cls : List (Int × Int)) (q : Int) (ht : Ref.tameB q = false) : gblock G cls q = (0, 0, 5) := if_pos ht
set_option maxRecDepth 100000 in
set_option maxHeartbeats 800000 in
theorem blockOf_wild (p : Nat) (G : GSt) (cls : List (Int × Int)) (q : Int) (w : World) (q1 : q ≤ 9223372036854775807) (ht : Ref.tameB q = false) :
 Calls Tryz.prog 139 #[.pointer (some ⟨p, 0, none⟩), .int .i64 q] w fun e w' => e = .returned (.tuple #[.int .i64 (gblock G cls q).1, .int .i64 (gblock G cls q).2.1, .int .i64 (gblock G cls q).2.2]) ∧ Below w.heap.size w w' := by
 rw [gblock_wild G cls q ht];go_enter Tryz.func139, Tryz.ntmps139
 go_wp2_with (go_at_call 156; refine (isTame_any _ _ q1).mono ?_; rw [ht]; rintro e1 w1 ⟨rfl, rfl⟩)
 go_ret3
 exact ⟨rfl, Below.refl _ _⟩
set_option maxRecDepth 100000 in
set_option maxHeartbeats 1600000 in
theorem blockOf_any (p : Nat) (vc : Value) (bb : Nat) (G : GSt) (rest : Int) (cls : List (Int × Int)) (q : Int) (w : World) (h : GRep w p vc bb G) (ho : GOk G rest cls) (q1 : q ≤ 9223372036854775807) (ht : Ref.tameB q = true) :
 Calls Tryz.prog 139 #[.pointer (some ⟨p, 0, none⟩), .int .i64 q] w fun e w' => e = .returned (.tuple #[.int .i64 (gblock G cls q).1, .int .i64 (gblock G cls q).2.1, .int .i64 (gblock G cls q).2.2]) ∧ Below w.heap.size w w' := by
 have HR : Hid (GRep w p vc bb G) := h;have HO : Hid (GOk G rest cls) := ho;have HTM : Hid (Ref.tameB q = true) := ht;obtain ⟨y0, y1, y2⟩ := (tame_iff q).1 ht;have a0 : -9223372036854775808 ≤ q % 72057594037927936 := by omega
 have a1 : q % 72057594037927936 ≤ 9223372036854775807 := by omega
 have hp := h.blk.lt;have c2 := h.blk.cell (j := 2) rfl;have n0 := ho.conf.n0;have n1 := ho.conf.n1;have hlen := ho.len;obtain ⟨ac, cap, rfl, hcap, hmax, hrow⟩ := row_open h.cls;obtain ⟨g, rfl, hgl, hcell, _⟩ := hrow (by omega);unfold maxLen at hmax;have HC : Hid (∀ j u, (G.cs.flatMap gclsCells)[j]? = some u → w.cell? ⟨g, j, none⟩ = some u) := hcell;have hl1 : G.cs.length ≤ 4 := by omega
 clear h ho hrow hcell
 rcases Cf.slot_bd G.st cls (q % 72057594037927936) with hsl | ⟨k, s, hsl, hk, hs2, _⟩
 ·rw [gblock_none G cls q ht hsl];have HL : Hid (Cf.cslot G.st cls (q % 72057594037927936) = (-1, 0)) := Cf.cslot_no HO.out.conf _ hsl;clear hsl hlen ht;go_enter Tryz.func139, Tryz.ntmps139
  go_wp2_with (first
   | (go_at_call 156; refine (isTame_any _ _ q1).mono ?_; rw [HTM.out]; rintro e1 w1 ⟨rfl, rfl⟩)
   | (go_at_call 157; refine (slotAt_any p _ bb G rest cls _ _ HR.out HO.out a0 a1).mono ?_; rw [HL.out]; rintro e1 w2 ⟨rfl, hb2⟩))
  go_ret3
  exact ⟨rfl, hb2⟩
 ·rw [gblock_at G cls q k s ht hsl];have HL : Hid (Cf.cslot G.st cls (q % 72057594037927936) = ((k : Int), (s : Int))) := Cf.cslot_yes HO.out.conf _ k s hsl;have hkl : k < G.cs.length := by omega
  obtain ⟨d0, d1, d2⟩ := gcls_cells HC.out k hkl;rw [HO.out.bg k hk] at d0;rw [HO.out.by_ k hk] at d1;have hsl2 := HO.out.sl k hk;have g0 := HO.out.conf.g0 k hk;have g1 := HO.out.conf.g1 k hk;have s0 := HO.out.conf.s0 k hk;have s1 := HO.out.conf.s1 k hk;have hsn : s < (G.cs.getD k GCls.no).slots.length := by omega
  have gb := Cf.gran_bd HO.out.conf k (by omega);have pbd := Cf.prod_bd (a := (s : Int)) (b := Cf.gr cls k) (by omega) (by omega) (by omega) (by omega);have HBE : Hid (Cf.begin_ G.st cls k s = 16 * Cf.gran G.st cls k + (s : Int) * (16 * Cf.gr cls k)) := Cf.begin_eq _ _ _ _
  have PM : Hid (0 ≤ (s : Int) * (16 * Cf.gr cls k) ∧ (s : Int) * (16 * Cf.gr cls k) ≤ 1000000) := by
   rw [Int.mul_left_comm]; exact ⟨by omega, by omega⟩
  have hblk := HR.out.slots k hkl;have hbl := hblk.lt;obtain ⟨e0, e1, e2, e3, e4, e5⟩ := slot_cells hblk s hsn;change w.cell? _ = some (.int .i64 (slotOf G k s).state) at e0;change w.cell? _ = some (.int .i64 (slotOf G k s).tag) at e1;change w.cell? _ = some (.int .i64 (slotOf G k s).bytes) at e2;change w.cell? _ = some (.int .i64 (slotOf G k s).rest) at e3;change w.cell? _ = some (.int .i64 (slotOf G k s).alloc) at e4;change w.cell? _ = some (.int .i64 (slotOf G k s).gone) at e5;generalize slotOf G k s = x at *;generalize (G.cs.getD k GCls.no).slots.length = n at *;generalize (G.cs.getD k GCls.no).sb = sb at *;have hkI : (k : Int) < (G.cs.length : Int) := by omega
  have hsI : (s : Int) < (n : Int) := by omega
  clear hsl hlen hblk hsl2 ht
  cases hbeg : (Cf.begin_ G.st cls k s != q % 72057594037927936)
  ·rw [if_neg (by rw [bne_eq_false_iff_eq] at hbeg; simp [hbeg])];have HX : Hid (gfound x (q / 72057594037927936) k s = if x.state = 2 ∨ x.tag ≠ q / 72057594037927936 then (0, 0, 8) else if x.state = 4 then (0, 0, 9) else ((k : Int), (s : Int), 0)) := rfl;have HGH : Hid (ghad x (q / 72057594037927936) = (x.state != 2 && x.tag == q / 72057594037927936)) := rfl
   cases z1 : ghad x (q / 72057594037927936)
   ·have HZ1 := hide2 z1
    have hfin : Hid (gfound x (q / 72057594037927936) k s = (0, 0, 8)) := by
     show _ = _;rw [HGH.out] at z1;rw [HX.out, if_pos (by simp at z1; omega)]
    rw [hfin.out];clear HX HGH z1;go_enter Tryz.func139, Tryz.ntmps139
    go_wp2_with fail
    refine (isTame_any _ _ q1).mono ?_;rw [HTM.out];rintro e1 w1 ⟨rfl, hw1⟩;subst hw1
    go_wp2_with fail
    refine (slotAt_any p _ bb G rest cls _ _ HR.out HO.out a0 a1).mono ?_;rw [HL.out];rintro e1 w2 ⟨rfl, hb2⟩;have c2' := (hb2.cell (p := ⟨p, 2, none⟩) hp).trans c2;have d0' := (hb2.cell (p := ⟨g, k * 3, none⟩) hgl).trans d0;have d1' := (hb2.cell (p := ⟨g, k * 3 + 1, none⟩) hgl).trans d1
    go_wp2_with fail
    refine (slotBegin_any g (k * 3) (16 * Cf.gran G.st cls k) (16 * Cf.gr cls k) (s : Int) _ d0' d1' (by omega) (by omega) PM.out.1 PM.out.2).mono ?_;rw [← HBE.out];rintro e1 w3 ⟨rfl, hb3'⟩;have hb3 := hb2.trans (hb3'.mono hb2.size);clear hb3' c2' d0' d1';have c2'' := (hb3.cell (p := ⟨p, 2, none⟩) hp).trans c2;have d2'' := (hb3.cell (p := ⟨g, k * 3 + 2, none⟩) hgl).trans d2;have e0'' := (hb3.cell (p := ⟨sb, s * 6, none⟩) hbl).trans e0;have e1'' := (hb3.cell (p := ⟨sb, s * 6 + 1, none⟩) hbl).trans e1;have e2'' := (hb3.cell (p := ⟨sb, s * 6 + 2, none⟩) hbl).trans e2;have e3'' := (hb3.cell (p := ⟨sb, s * 6 + 3, none⟩) hbl).trans e3;have e4'' := (hb3.cell (p := ⟨sb, s * 6 + 4, none⟩) hbl).trans e4;have e5'' := (hb3.cell (p := ⟨sb, s * 6 + 5, none⟩) hbl).trans e5
    go_wp2_with fail
    have hsc : Blk (w3.alloc (.cells #[.int .i64 x.state, .int .i64 x.tag, .int .i64 x.bytes, .int .i64 x.rest, .int .i64 x.alloc, .int .i64 x.gone] 146)) w3.heap.size 146 [.int .i64 x.state, .int .i64 x.tag, .int .i64 x.bytes, .int .i64 x.rest, .int .i64 x.alloc, .int .i64 x.gone] := Blk.alloc w3 _ _;have hst0 := hsc.cell (j := 0) rfl;have hs4 := hsc.lt;have hb3a := hb3.alloc hb3.size (.cells #[.int .i64 x.state, .int .i64 x.tag, .int .i64 x.bytes, .int .i64 x.rest, .int .i64 x.alloc, .int .i64 x.gone] 146);generalize (w3.alloc (.cells #[.int .i64 x.state, .int .i64 x.tag, .int .i64 x.bytes, .int .i64 x.rest, .int .i64 x.alloc, .int .i64 x.gone] 146)) = w4 at *;refine (had_any x (q / 72057594037927936) w4).mono ?_;rw [HZ1.out];rintro e1 w5 ⟨rfl, hb5⟩;have hst := (hb5.cell (p := ⟨w3.heap.size, 0, none⟩) hs4).trans hst0;have hb := hb3a.trans (hb5.mono hb3a.size);clear hst0 hb5 hb3a hsc;go_wp2
    all_goals
     go_ret3
     exact ⟨rfl, hb⟩
   ·have HZ1 := hide2 z1
    have hx : ¬ (x.state = 2 ∨ x.tag ≠ q / 72057594037927936) := by
     rw [HGH.out] at z1;simp at z1; omega
    cases z3 : (x.state == 4)
    ·have hfin : Hid (gfound x (q / 72057594037927936) k s = ((k : Int), (s : Int), 0)) := by
      show _ = _;rw [beq_eq_false_iff_ne] at z3;rw [HX.out, if_neg hx, if_neg z3]
     rw [hfin.out];clear HX HGH z1 hx;go_enter Tryz.func139, Tryz.ntmps139
     go_wp2_with fail
     refine (isTame_any _ _ q1).mono ?_;rw [HTM.out];rintro e1 w1 ⟨rfl, hw1⟩;subst hw1
     go_wp2_with fail
     refine (slotAt_any p _ bb G rest cls _ _ HR.out HO.out a0 a1).mono ?_;rw [HL.out];rintro e1 w2 ⟨rfl, hb2⟩;have c2' := (hb2.cell (p := ⟨p, 2, none⟩) hp).trans c2;have d0' := (hb2.cell (p := ⟨g, k * 3, none⟩) hgl).trans d0;have d1' := (hb2.cell (p := ⟨g, k * 3 + 1, none⟩) hgl).trans d1
     go_wp2_with fail
     refine (slotBegin_any g (k * 3) (16 * Cf.gran G.st cls k) (16 * Cf.gr cls k) (s : Int) _ d0' d1' (by omega) (by omega) PM.out.1 PM.out.2).mono ?_;rw [← HBE.out];rintro e1 w3 ⟨rfl, hb3'⟩;have hb3 := hb2.trans (hb3'.mono hb2.size);clear hb3' c2' d0' d1';have c2'' := (hb3.cell (p := ⟨p, 2, none⟩) hp).trans c2;have d2'' := (hb3.cell (p := ⟨g, k * 3 + 2, none⟩) hgl).trans d2;have e0'' := (hb3.cell (p := ⟨sb, s * 6, none⟩) hbl).trans e0;have e1'' := (hb3.cell (p := ⟨sb, s * 6 + 1, none⟩) hbl).trans e1;have e2'' := (hb3.cell (p := ⟨sb, s * 6 + 2, none⟩) hbl).trans e2;have e3'' := (hb3.cell (p := ⟨sb, s * 6 + 3, none⟩) hbl).trans e3;have e4'' := (hb3.cell (p := ⟨sb, s * 6 + 4, none⟩) hbl).trans e4;have e5'' := (hb3.cell (p := ⟨sb, s * 6 + 5, none⟩) hbl).trans e5
     go_wp2_with fail
     have hsc : Blk (w3.alloc (.cells #[.int .i64 x.state, .int .i64 x.tag, .int .i64 x.bytes, .int .i64 x.rest, .int .i64 x.alloc, .int .i64 x.gone] 146)) w3.heap.size 146 [.int .i64 x.state, .int .i64 x.tag, .int .i64 x.bytes, .int .i64 x.rest, .int .i64 x.alloc, .int .i64 x.gone] := Blk.alloc w3 _ _;have hst0 := hsc.cell (j := 0) rfl;have hs4 := hsc.lt;have hb3a := hb3.alloc hb3.size (.cells #[.int .i64 x.state, .int .i64 x.tag, .int .i64 x.bytes, .int .i64 x.rest, .int .i64 x.alloc, .int .i64 x.gone] 146);generalize (w3.alloc (.cells #[.int .i64 x.state, .int .i64 x.tag, .int .i64 x.bytes, .int .i64 x.rest, .int .i64 x.alloc, .int .i64 x.gone] 146)) = w4 at *;refine (had_any x (q / 72057594037927936) w4).mono ?_;rw [HZ1.out];rintro e1 w5 ⟨rfl, hb5⟩;have hst := (hb5.cell (p := ⟨w3.heap.size, 0, none⟩) hs4).trans hst0;have hb := hb3a.trans (hb5.mono hb3a.size);clear hst0 hb5 hb3a hsc;go_wp2
     all_goals
      go_ret3
      exact ⟨rfl, hb⟩
    ·have hfin : Hid (gfound x (q / 72057594037927936) k s = (0, 0, 9)) := by
      show _ = _;rw [HX.out, if_neg hx, if_pos (by simpa using z3)]
     rw [hfin.out];clear HX HGH z1 hx;go_enter Tryz.func139, Tryz.ntmps139
     go_wp2_with fail
     refine (isTame_any _ _ q1).mono ?_;rw [HTM.out];rintro e1 w1 ⟨rfl, hw1⟩;subst hw1
     go_wp2_with fail
     refine (slotAt_any p _ bb G rest cls _ _ HR.out HO.out a0 a1).mono ?_;rw [HL.out];rintro e1 w2 ⟨rfl, hb2⟩;have c2' := (hb2.cell (p := ⟨p, 2, none⟩) hp).trans c2;have d0' := (hb2.cell (p := ⟨g, k * 3, none⟩) hgl).trans d0;have d1' := (hb2.cell (p := ⟨g, k * 3 + 1, none⟩) hgl).trans d1
     go_wp2_with fail
     refine (slotBegin_any g (k * 3) (16 * Cf.gran G.st cls k) (16 * Cf.gr cls k) (s : Int) _ d0' d1' (by omega) (by omega) PM.out.1 PM.out.2).mono ?_;rw [← HBE.out];rintro e1 w3 ⟨rfl, hb3'⟩;have hb3 := hb2.trans (hb3'.mono hb2.size);clear hb3' c2' d0' d1';have c2'' := (hb3.cell (p := ⟨p, 2, none⟩) hp).trans c2;have d2'' := (hb3.cell (p := ⟨g, k * 3 + 2, none⟩) hgl).trans d2;have e0'' := (hb3.cell (p := ⟨sb, s * 6, none⟩) hbl).trans e0;have e1'' := (hb3.cell (p := ⟨sb, s * 6 + 1, none⟩) hbl).trans e1;have e2'' := (hb3.cell (p := ⟨sb, s * 6 + 2, none⟩) hbl).trans e2;have e3'' := (hb3.cell (p := ⟨sb, s * 6 + 3, none⟩) hbl).trans e3;have e4'' := (hb3.cell (p := ⟨sb, s * 6 + 4, none⟩) hbl).trans e4;have e5'' := (hb3.cell (p := ⟨sb, s * 6 + 5, none⟩) hbl).trans e5
     go_wp2_with fail
     have hsc : Blk (w3.alloc (.cells #[.int .i64 x.state, .int .i64 x.tag, .int .i64 x.bytes, .int .i64 x.rest, .int .i64 x.alloc, .int .i64 x.gone] 146)) w3.heap.size 146 [.int .i64 x.state, .int .i64 x.tag, .int .i64 x.bytes, .int .i64 x.rest, .int .i64 x.alloc, .int .i64 x.gone] := Blk.alloc w3 _ _;have hst0 := hsc.cell (j := 0) rfl;have hs4 := hsc.lt;have hb3a := hb3.alloc hb3.size (.cells #[.int .i64 x.state, .int .i64 x.tag, .int .i64 x.bytes, .int .i64 x.rest, .int .i64 x.alloc, .int .i64 x.gone] 146);generalize (w3.alloc (.cells #[.int .i64 x.state, .int .i64 x.tag, .int .i64 x.bytes, .int .i64 x.rest, .int .i64 x.alloc, .int .i64 x.gone] 146)) = w4 at *;refine (had_any x (q / 72057594037927936) w4).mono ?_;rw [HZ1.out];rintro e1 w5 ⟨rfl, hb5⟩;have hst := (hb5.cell (p := ⟨w3.heap.size, 0, none⟩) hs4).trans hst0;have hb := hb3a.trans (hb5.mono hb3a.size);clear hst0 hb5 hb3a hsc;go_wp2
     all_goals
      go_ret3
      exact ⟨rfl, hb⟩
  ·rw [if_pos (by rw [bne_iff_ne] at hbeg; exact hbeg)];go_enter Tryz.func139, Tryz.ntmps139
   go_wp2_with fail
   refine (isTame_any _ _ q1).mono ?_;rw [HTM.out];rintro e1 w1 ⟨rfl, hw1⟩;subst hw1
   go_wp2_with fail
   refine (slotAt_any p _ bb G rest cls _ _ HR.out HO.out a0 a1).mono ?_;rw [HL.out];rintro e1 w2 ⟨rfl, hb2⟩;have c2' := (hb2.cell (p := ⟨p, 2, none⟩) hp).trans c2;have d0' := (hb2.cell (p := ⟨g, k * 3, none⟩) hgl).trans d0;have d1' := (hb2.cell (p := ⟨g, k * 3 + 1, none⟩) hgl).trans d1
   go_wp2_with fail
   refine (slotBegin_any g (k * 3) (16 * Cf.gran G.st cls k) (16 * Cf.gr cls k) (s : Int) _ d0' d1' (by omega) (by omega) PM.out.1 PM.out.2).mono ?_;rw [← HBE.out];rintro e1 w3 ⟨rfl, hb3'⟩;have hb3 := hb2.trans (hb3'.mono hb2.size);clear hb3' c2' d0' d1';have c2'' := (hb3.cell (p := ⟨p, 2, none⟩) hp).trans c2;have d2'' := (hb3.cell (p := ⟨g, k * 3 + 2, none⟩) hgl).trans d2;have e0'' := (hb3.cell (p := ⟨sb, s * 6, none⟩) hbl).trans e0;have e1'' := (hb3.cell (p := ⟨sb, s * 6 + 1, none⟩) hbl).trans e1;have e2'' := (hb3.cell (p := ⟨sb, s * 6 + 2, none⟩) hbl).trans e2;have e3'' := (hb3.cell (p := ⟨sb, s * 6 + 3, none⟩) hbl).trans e3;have e4'' := (hb3.cell (p := ⟨sb, s * 6 + 4, none⟩) hbl).trans e4;have e5'' := (hb3.cell (p := ⟨sb, s * 6 + 5, none⟩) hbl).trans e5;go_wp2
   all_goals
    go_ret3
    first
     | exact ⟨rfl, hb3.alloc hb3.size _⟩
     | exact ⟨rfl, hb3⟩
end Go.Proofs.YtjikemhmnkckcabGreat
namespace Go.Proofs.YtjikemhmnkckcabGreat
open Go.RowKit
attribute [local go_sem ↓] Go.wp_at_zero Go.wp_at_succ
def dec1 (x : GSlot) : GSlot := if 0 < x.rest then ⟨x.state, x.tag, x.bytes, x.rest - 1, x.alloc, x.gone⟩ else x
def decTo (xs : List GSlot) : Nat → List GSlot
 | 0 => xs
 | m + 1 => (decTo xs m).set m (dec1 ((decTo xs m).getD m GSlot.no))
theorem decTo_len (xs : List GSlot) (m : Nat) : (decTo xs m).length = xs.length := by
 induction m with
 | zero => rfl
 | succ m ih => simp [decTo, ih]
theorem decTo_getD (xs : List GSlot) (m j : Nat) (hj : j < xs.length) : (decTo xs m).getD j GSlot.no = if j < m then dec1 (xs.getD j GSlot.no) else xs.getD j GSlot.no := by
 induction m with
 | zero => simp [decTo]
 | succ m ih =>
   have hl := decTo_len xs m;simp only [decTo]
   by_cases e : j = m
   ·subst e;rw [getD_set_same _ _ _ _ (by omega), ih, if_neg (by omega), if_pos (by omega)]
   ·have e2 : ((decTo xs m).set m (dec1 ((decTo xs m).getD m GSlot.no))).getD j GSlot.no = (decTo xs m).getD j GSlot.no := by
     simp [List.getD_eq_getElem?_getD, List.getElem?_set_ne (Ne.symm e)]
    rw [e2, ih]
    by_cases h2 : j < m
    ·rw [if_pos h2, if_pos (by omega)]
    ·rw [if_neg h2, if_neg (by omega)]
def freed (xs : List GSlot) (i : Nat) (r site : Int) : List GSlot :=
 (decTo xs xs.length).set i ⟨4, (xs.getD i GSlot.no).tag, (xs.getD i GSlot.no).bytes, r, (xs.getD i GSlot.no).alloc, site⟩
theorem freed_len (xs : List GSlot) (i : Nat) (r site : Int) : (freed xs i r site).length = xs.length := by simp [freed, decTo_len]
theorem set_getD_self {α : Type} (xs : List α) (i : Nat) (d : α) : xs.set i (xs.getD i d) = xs := by
 by_cases h : i < xs.length
 ·apply List.ext_getElem?;intro j
  by_cases e : i = j
  ·subst e; simp [List.getD_eq_getElem?_getD, List.getElem?_eq_getElem h]
  ·rw [List.getElem?_set_ne e]
 ·exact List.set_eq_of_length_le (by omega)
set_option maxRecDepth 100000 in
set_option maxHeartbeats 800000 in
theorem freeSlot_any (b off sb : Nat) (xs : List GSlot) (i : Nat) (r site : Int) (w : World) (h2 : w.cell? ⟨b, off + 2, none⟩ = some (.slice (some ⟨sb, 0, none⟩) xs.length xs.length)) (hs : Blk w sb 146 (xs.flatMap slotCells)) (hne : b ≠ sb) (hi : i < xs.length) (hx : xs.length ≤ 16)
 (hr : ∀ j, j < xs.length → (xs.getD j GSlot.no).rest ≤ 16) :
 Calls Tryz.prog 140 #[.pointer (some ⟨b, off, none⟩), .int .i64 (i : Int), .int .i64 r, .int .i64 site] w fun e w' => e = .returned (.tuple #[]) ∧ Blk w' sb 146 ((freed xs i r site).flatMap slotCells) ∧ Kept w w' (· = sb) := by
 have HS := hide2 hs;have HRR := hide2 hr;have hbl := World.block_lt_of_cell? w _ h2;have hiI : (i : Int) < (xs.length : Int) := by omega
 clear hs hr;go_enter Tryz.func140, Tryz.ntmps140;go_wp2
 go_loopw [8] (fun j wr => ∃ m : Nat, m ≤ xs.length ∧ j = .int .i64 (m : Int) ∧ Blk wr sb 146 ((decTo xs m).flatMap slotCells) ∧ Kept w wr (· = sb)) (fun j _ => xs.length - (intOf j).toNat)
 case atStart => exact ⟨0, by omega, rfl, HS.out, Kept.same _ _⟩
 case round =>
  obtain ⟨m, hm, rfl, hb, hk⟩ := hrel
  have h2' : wr.cell? ⟨b, off + 2, none⟩ = some (.slice (some ⟨sb, 0, none⟩) xs.length xs.length) := by
   rw [World.cell?_of_block (w := w) (hk.block b hbl hne)]; exact h2
  have HB := hide2 hb;have HK := hide2 hk;have hl := decTo_len xs m
  by_cases hlt : m < xs.length
  ·obtain ⟨e0, e1, e2, e3, e4, e5⟩ := slot_cells hb m (by omega);have f3 := hb.frozen (m * 6 + 3);have hg : Hid ((decTo xs m).getD m GSlot.no = xs.getD m GSlot.no) := by show _ = _; rw [decTo_getD xs m m hlt, if_neg (by omega)]
   rw [hg.out] at e3;have hrm := HRR.out m hlt;have hst : Hid (decTo xs (m + 1) = (decTo xs m).set m (dec1 (xs.getD m GSlot.no))) := by show _ = _; simp only [decTo]; rw [hg.out]
   have hltI : (m : Int) < (xs.length : Int) := by omega
   generalize hxm : xs.getD m GSlot.no = x at *;have HXM := hide2 hxm;clear hb hk e0 e1 e2 e4 e5 hxm
   by_cases hpos : 0 < x.rest
   ·have hfin : Hid (decTo xs (m + 1) = (decTo xs m).set m ⟨x.state, x.tag, x.bytes, x.rest - 1, x.alloc, x.gone⟩) := by show _ = _; rw [hst.out, dec1, if_pos hpos]
    go_wp2
    go_roundw
    case rel =>
     have hsf := slot_field HB.out m 3 (by omega) (by omega) (.int .i64 (x.rest - 1)) ⟨x.state, x.tag, x.bytes, x.rest - 1, x.alloc, x.gone⟩ (by rw [hg.out]; rfl);rw [← hfin.out] at hsf;exact ⟨m + 1, by omega, by go_num, hsf, HK.out.set _ _ rfl⟩
    case measure => simp [intOf]; omega
   ·have hfin : Hid (decTo xs (m + 1) = decTo xs m) := by
     show _ = _;rw [hst.out, dec1, if_neg hpos, ← hg.out, set_getD_self]
    go_wp2
    go_roundw
    case rel => exact ⟨m + 1, by omega, by go_num, by rw [hfin.out]; exact HB.out, HK.out⟩
    case measure => simp [intOf]; omega
  ·obtain rfl : m = xs.length := by omega
   obtain ⟨e0, e1, e2, e3, e4, e5⟩ := slot_cells hb i (by omega);have f0 := hb.frozen (i * 6);have f3 := hb.frozen (i * 6 + 3);have f5 := hb.frozen (i * 6 + 5);have hg : Hid ((decTo xs xs.length).getD i GSlot.no = dec1 (xs.getD i GSlot.no)) := by show _ = _; rw [decTo_getD xs xs.length i hi, if_pos hi]
   generalize hyi : (decTo xs xs.length).getD i GSlot.no = y at *;have HY := hide2 hyi;clear hb hk hyi;go_wp2;go_end0;refine ⟨rfl, ?_, ((HK.out.set _ _ rfl).set _ _ rfl).set _ _ rfl⟩;have a0 := slot_field HB.out i 0 (by omega) (by omega) (.int .i64 4) ⟨4, y.tag, y.bytes, y.rest, y.alloc, y.gone⟩ (by rw [HY.out]; rfl);have a1 := slot_field a0 i 3 (by simpa using by omega) (by omega) (.int .i64 r) ⟨4, y.tag, y.bytes, r, y.alloc, y.gone⟩ (by rw [getD_set_same _ _ _ _ (by omega)]; rfl);rw [List.set_set] at a1;have a2 := slot_field a1 i 5 (by simpa using by omega) (by omega) (.int .i64 site) ⟨4, y.tag, y.bytes, r, y.alloc, site⟩ (by rw [getD_set_same _ _ _ _ (by omega)]; rfl);rw [List.set_set] at a2
   have e : freed xs i r site = (decTo xs xs.length).set i ⟨4, y.tag, y.bytes, r, y.alloc, site⟩ := by
    unfold freed
    have h1 : (xs.getD i GSlot.no).tag = y.tag ∧ (xs.getD i GSlot.no).bytes = y.bytes ∧ (xs.getD i GSlot.no).alloc = y.alloc := by
     rw [hg.out]; unfold dec1; split <;> exact ⟨rfl, rfl, rfl⟩
    rw [h1.1, h1.2.1, h1.2.2]
   rw [e];exact a2
set_option maxRecDepth 100000 in
set_option maxHeartbeats 800000 in
theorem gfree_none (p : Nat) (site : Int) (w : World) :
 Calls Tryz.prog 111 #[.pointer (some ⟨p, 0, none⟩), .int .i64 0, .int .i64 site] w fun e w' => e = .returned (.int .i64 0) ∧ w = w' := by
 go_enter Tryz.func111, Tryz.ntmps111;go_wp2;go_ret;exact ⟨rfl, rfl⟩
theorem blockOf_all (p : Nat) (vc : Value) (bb : Nat) (G : GSt) (rest : Int) (cls : List (Int × Int)) (q : Int) (w : World) (h : GRep w p vc bb G) (ho : GOk G rest cls) (q1 : q ≤ 9223372036854775807) :
 Calls Tryz.prog 139 #[.pointer (some ⟨p, 0, none⟩), .int .i64 q] w fun e w' => e = .returned (.tuple #[.int .i64 (gblock G cls q).1, .int .i64 (gblock G cls q).2.1, .int .i64 (gblock G cls q).2.2]) ∧ Below w.heap.size w w' := by
 cases ht : Ref.tameB q
 ·exact blockOf_wild p G cls q w q1 ht
 ·exact blockOf_any p vc bb G rest cls q w h ho q1 ht
set_option maxRecDepth 100000 in
set_option maxHeartbeats 800000 in
theorem gfree_err (p : Nat) (vc : Value) (bb : Nat) (G : GSt) (rest : Int) (cls : List (Int × Int)) (q site : Int) (w : World) (h : GRep w p vc bb G) (ho : GOk G rest cls) (q1 : q ≤ 9223372036854775807) (hq : q ≠ 0) (he : (gblock G cls q).2.2 ≠ 0) :
 Calls Tryz.prog 111 #[.pointer (some ⟨p, 0, none⟩), .int .i64 q, .int .i64 site] w fun e w' => e = .returned (.int .i64 (gblock G cls q).2.2) ∧ Below w.heap.size w w' := by
 have hq0 : (q == 0) = false := by rw [beq_eq_false_iff_ne]; exact hq
 have he0 : ((gblock G cls q).2.2 != 0) = true := by rw [bne_iff_ne]; exact he
 have HR := hide2 h;have HO := hide2 ho;clear hq he h ho;go_enter Tryz.func111, Tryz.ntmps111
 go_wp2_with (go_at_call 139; refine (blockOf_all p vc bb G rest cls q _ HR.out HO.out q1).mono ?_; rintro e1 w1 ⟨rfl, hb1⟩)
 go_ret;exact ⟨rfl, hb1⟩
set_option maxRecDepth 100000 in
set_option maxHeartbeats 1600000 in
theorem gfree_ok (p : Nat) (vc : Value) (bb : Nat) (G : GSt) (rest : Int) (cls : List (Int × Int)) (q site : Int) (k s : Nat) (w : World) (h : GRep w p vc bb G) (ho : GOk G rest cls) (q1 : q ≤ 9223372036854775807) (hq : q ≠ 0) (he : gblock G cls q = ((k : Int), (s : Int), 0))
 (hk : k < cls.length) (hs : s < (G.cs.getD k GCls.no).slots.length) (hr : ∀ j, j < (G.cs.getD k GCls.no).slots.length → ((G.cs.getD k GCls.no).slots.getD j GSlot.no).rest ≤ 16) :
 Calls Tryz.prog 111 #[.pointer (some ⟨p, 0, none⟩), .int .i64 q, .int .i64 site] w fun e w' => e = .returned (.int .i64 0) ∧
  GRep w' p vc bb (G.withSlots k (freed (G.cs.getD k GCls.no).slots s G.rest site)) ∧ Kept w w' (fun b => b = (G.cs.getD k GCls.no).sb) := by
 have hq0 : (q == 0) = false := by rw [beq_eq_false_iff_ne]; exact hq
 have HR := hide2 h;have HO := hide2 ho;have HE := hide2 he;have hlen := ho.len;have hkl : k < G.cs.length := by omega
 have hp := h.blk.lt;have c1 := h.blk.cell (j := 1) rfl;have c2 := h.blk.cell (j := 2) rfl;obtain ⟨ac, cap, rfl, hcap, hmax, hrow⟩ := row_open h.cls;obtain ⟨g, rfl, hgl, hcell, _⟩ := hrow (by omega);unfold maxLen at hmax;obtain ⟨_, _, d2⟩ := gcls_cells hcell k hkl;have HBK := hide2 (h.slots k hkl);have hbl := (h.slots k hkl).lt;have hx : (G.cs.getD k GCls.no).slots.length ≤ 16 := by have := ho.sl k hk; have := ho.conf.s1 k hk; omega
 have hkI : (k : Int) < (G.cs.length : Int) := by omega
 have hk0 : (0 : Int) ≤ (k : Int) := by omega
 have hl4 : G.cs.length ≤ 4 := by have := ho.conf.n1; omega
 have hgs : g ≠ (G.cs.getD k GCls.no).sb := fun e => (h.apS k hkl).2.2 (by rw [← e]; rfl)
 have hps : p ≠ (G.cs.getD k GCls.no).sb := fun e => (h.apS k hkl).1 e.symm
 have HRS := hide2 hr;have HSL := hide2 (show (freed (G.cs.getD k GCls.no).slots s G.rest site).length = (G.cs.getD k GCls.no).slots.length from freed_len _ _ _ _);generalize hsb : (G.cs.getD k GCls.no).sb = sb at *;generalize hxs : (G.cs.getD k GCls.no).slots = xs at *;have HSB := hide2 hsb;have HXS := hide2 hxs;clear hq he h ho hrow hcell hlen hr hsb hxs;go_enter Tryz.func111, Tryz.ntmps111
 go_wp2_with fail
 refine (blockOf_all p _ bb G rest cls q _ HR.out HO.out q1).mono ?_;rw [HE.out];rintro e1 w1 ⟨rfl, hb1⟩;have c1' := (hb1.cell (p := ⟨p, 1, none⟩) hp).trans c1;have c2' := (hb1.cell (p := ⟨p, 2, none⟩) hp).trans c2;have d2' := (hb1.cell (p := ⟨g, k * 3 + 2, none⟩) hgl).trans d2;have HB1 := hide2 (HBK.out.below hb1 hbl);have hp1 : p < w1.heap.size := Nat.lt_of_lt_of_le hp hb1.size;clear c1 c2 d2
 go_wp2_with fail
 go_region_held3 (fun w' => w'.cell? ⟨p, 1, none⟩ = some (.int .i64 G.rest) ∧ w'.cell? ⟨p, 2, none⟩ = some (.slice (some ⟨g, 0, none⟩) G.cs.length cap)) (go_keep)
  (first | (go_at_call 140; refine (freeSlot_any g (k * 3) sb xs s G.rest site w1.drew d2' HB1.out hgs hs hx HRS.out).mono ?_; rintro e1 w2 ⟨rfl, hb2, hk2⟩; have c1'' : w2.cell? ⟨p, 1, none⟩ = some (.int .i64 G.rest) := ((World.cell?_of_block (w := w1.drew) (hk2.block p hp1 hps)).trans c1'); have c2'' : w2.cell? ⟨p, 2, none⟩ = some (.slice (some ⟨g, 0, none⟩) G.cs.length cap) := ((World.cell?_of_block (w := w1.drew) (hk2.block p hp1 hps)).trans c2')))
 go_wp2;go_ret;refine ⟨rfl, ?_, (Kept.of_below hb1 _).trans (show Kept w1 w2 _ from ⟨hk2.os, hk2.tape, hk2.output, hk2.size, hk2.block⟩)⟩;exact (HR.out.below hb1).setSlots k hkl _ (by rw [HXS.out]; exact HSL.out) (by rw [HSB.out]; exact ⟨hk2.os, hk2.tape, hk2.output, hk2.size, hk2.block⟩) (by rw [HSB.out]; exact hb2)
end Go.Proofs.YtjikemhmnkckcabGreat
