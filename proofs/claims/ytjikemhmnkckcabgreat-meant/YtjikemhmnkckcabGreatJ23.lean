import Derived.Test.YtjikemhmnkckcabGreatJ22
namespace Go.Proofs.YtjikemhmnkckcabGreat
open Go.RowKit
def kpick (c n : Int) : Int := (if c < 0 then -(c + 1) else c) % n
theorem kpick_bd (c n : Int) (hn : 0 < n) : 0 ≤ kpick c n ∧ kpick c n < n := by
 unfold kpick;exact ⟨Int.emod_nonneg _ (by omega), Int.emod_lt_of_pos _ hn⟩
set_option maxRecDepth 100000 in
set_option maxHeartbeats 800000 in
theorem kpick_any (c n : Int) (w : World) (hn : 0 < n) (c0 : -9223372036854775808 ≤ c) (c1 : c ≤ 9223372036854775807) :
 Calls Tryz.prog 42 #[.int .i64 c, .int .i64 n] w fun e w' => e = .returned (.int .i64 (kpick c n)) ∧ w = w' := by
 by_cases h : c < 0
 ·have HF : Hid (kpick c n = (-(c + 1)) % n) := by show _ = _; unfold kpick; rw [if_pos h]
  have hx : 0 ≤ -(c + 1) := by omega
  go_enter Tryz.func42, Tryz.ntmps42;go_wp2;go_ret;exact ⟨ret_int (by rw [HF.out, ← Int.neg_tmod, Int.tmod_eq_emod_of_nonneg hx]), rfl⟩
 ·have HF : Hid (kpick c n = c % n) := by show _ = _; unfold kpick; rw [if_neg h]
  have hx : 0 ≤ c := by omega
  go_enter Tryz.func42, Tryz.ntmps42;go_wp2;go_ret;exact ⟨ret_int (by rw [HF.out]), rfl⟩
set_option maxRecDepth 100000 in
set_option maxHeartbeats 1600000 in
theorem kbegin_any (st rest : Int) (a : Option Addr) (cap : Nat) (cls : List (Int × Int)) (k s : Int) (w : World) (hv : Cf.Valid st rest cls) (h : CRow w a cap cls) (k0 : 0 ≤ k) (k1 : k < cls.length) (s0 : 0 ≤ s) (s1 : s ≤ 16) :
 Calls Tryz.prog 132 #[.agg #[.int .i64 st, .int .i64 rest, .slice a cls.length cap], .int .i64 k, .int .i64 s] w fun e w' => e = .returned (.int .i64 (Cf.begin_ st cls k.toNat s)) ∧ Below w.heap.size w w' := by
 obtain ⟨k, rfl⟩ := Int.eq_ofNat_of_zero_le k0;rw [Int.toNat_natCast];obtain ⟨g, off, rfl, hgl, hcell⟩ := h.cells hv.n0;have hlen := h.len;have hcap := h.cap;have b0 := hv.st0;have b1 := hv.st1;have n1 := hv.n1;unfold maxLen at hcap;have HV : Hid (Cf.Valid st rest cls) := hv;have HC : Hid (∀ i, i < cls.length → w.cell? ⟨g, off + i * 2, none⟩ = some (.int .i64 (Cf.gr cls i)) ∧ w.cell? ⟨g, off + i * 2 + 1, none⟩ = some (.int .i64 (Cf.sl cls i))) := hcell;clear hv h hcell;go_enter Tryz.func132, Tryz.ntmps132;go_wp2
 go_loopw [7, 8] (fun x i wr => ∃ m : Nat, m ≤ k ∧ i = .int .i64 (m : Int) ∧ x = .int .i64 (Cf.gran st cls m) ∧ Below w.heap.size w wr ∧ wr.cell? ⟨w.heap.size, 2, none⟩ = some (.slice (some ⟨g, off, none⟩) cls.length cap)) (fun _ i _ => k - (intOf i).toNat)
 case atStart => exact ⟨0, by omega, rfl, by simp [Cf.gran]; omega, (Below.refl _ _).alloc (Nat.le_refl _) _, by simp⟩
 case round =>
  obtain ⟨m, hm, rfl, rfl, hb, cc⟩ := hrel;have gb := Cf.gran_bd HV.out m (by omega)
  by_cases hlt : m < k
  ·obtain ⟨d0, d1⟩ := HC.out m (by omega);have d0' := (hb.cell (p := ⟨g, off + m * 2, none⟩) hgl).trans d0;have d1' := (hb.cell (p := ⟨g, off + m * 2 + 1, none⟩) hgl).trans d1;have pb := Cf.prod_bd (by have := HV.out.s0 m (by omega); omega) (HV.out.s1 m (by omega)) (by have := HV.out.g0 m (by omega); omega) (HV.out.g1 m (by omega));rw [Int.mul_comm] at pb;have hg : Hid (Cf.gran st cls (m + 1) = Cf.gran st cls m + Cf.sl cls m * Cf.gr cls m + 1) := rfl;generalize Cf.gr cls m = x at *;generalize Cf.sl cls m = y at *;clear d0 d1;go_wp2
   go_quiet (fail)
   go_wp2
   go_roundw
   case rel => exact ⟨m + 1, by omega, by go_num, by rw [hg.out, Int.mul_comm y x], below_drewN hb _, cc⟩
   case measure => simp [intOf]; omega
  ·obtain rfl : m = k := by omega
   obtain ⟨d0, d1⟩ := HC.out m (by omega);have d0' := (hb.cell (p := ⟨g, off + m * 2, none⟩) hgl).trans d0;have pb := Cf.prod_bd s0 s1 (by have := HV.out.g0 m (by omega); omega) (HV.out.g1 m (by omega));have hbe : Hid (Cf.begin_ st cls m s = 16 * (Cf.gran st cls m + s * Cf.gr cls m)) := rfl;generalize Cf.gr cls m = x at *;clear d0 d1;go_wp2;go_ret;exact ⟨ret_int (by rw [hbe.out]), hb⟩
set_option maxRecDepth 100000 in
set_option maxHeartbeats 1600000 in
theorem kspot_any (st rest : Int) (a : Option Addr) (cap : Nat) (cls : List (Int × Int)) (addr : Int) (w : World) (hv : Cf.Valid st rest cls) (h : CRow w a cap cls) (a0 : 0 ≤ addr) (a1 : addr ≤ 1000000000000000000) :
 Calls Tryz.prog 131 #[.agg #[.int .i64 st, .int .i64 rest, .slice a cls.length cap], .int .i64 addr] w fun e w' => e = .returned (.tuple #[.int .i64 (Cf.slot st cls addr).1, .int .i64 (Cf.slot st cls addr).2]) ∧ Below w.heap.size w w' := by
 have HH := hide2 h;obtain ⟨g, off, rfl, hgl, hcell⟩ := h.cells hv.n0;have hlen := h.len;have hcap := h.cap;have n1 := hv.n1;unfold maxLen at hcap;have HV := hide2 hv;have HC : Hid (∀ i, i < cls.length → w.cell? ⟨g, off + i * 2, none⟩ = some (.int .i64 (Cf.gr cls i)) ∧ w.cell? ⟨g, off + i * 2 + 1, none⟩ = some (.int .i64 (Cf.sl cls i))) := hcell;have HEQ : Hid (Cf.slot st cls addr = if (Cf.cslotFrom st cls addr cls.length 0).1 < 0 then (-1, -1) else Cf.cslotFrom st cls addr cls.length 0) := Cf.cslot_eq hv addr cls.length 0 (by omega);clear hv h hcell;go_enter Tryz.func131, Tryz.ntmps131;go_wp2
 go_loopw [6] (fun i wr => ∃ m f : Nat, m + f = cls.length ∧ i = .int .i64 (m : Int) ∧ Hid (Cf.slot st cls addr = if (Cf.cslotFrom st cls addr f m).1 < 0 then (-1, -1) else Cf.cslotFrom st cls addr f m) ∧ Below w.heap.size w wr ∧ CBox wr w.heap.size st rest (some ⟨g, off, none⟩) cls.length cap) (fun i _ => cls.length - (intOf i).toNat)
 case atStart => exact ⟨0, cls.length, by omega, rfl, HEQ.out, (Below.refl _ _).alloc (Nat.le_refl _) _, CBox.alloc _ _ _ _ _ _ _⟩
 case round =>
  obtain ⟨m, f, hm, rfl, hs, hb, cc⟩ := hrel;have k0 := cc.c0;have k1 := cc.c1;have k2 := cc.c2;have hlt0 := cc.lt;have HB := hide2 hb;have HCC := hide2 cc;clear cc hb HEQ
  cases f with
  | zero =>
    have hm' : ¬ (m : Int) < cls.length := by omega
    clear hm;go_wp2;go_ret2;exact ⟨by rw [hs.out]; rfl, HB.out⟩
  | succ f =>
    have hlt : m < cls.length := by omega
    have HM := hide2 hm;obtain ⟨d0, d1⟩ := HC.out m hlt;have d0' := (HB.out.cell (p := ⟨g, off + m * 2, none⟩) hgl).trans d0;have d1' := (HB.out.cell (p := ⟨g, off + m * 2 + 1, none⟩) hgl).trans d1;have s0 := HV.out.s0 m hlt;have s1 := HV.out.s1 m hlt;have g0 := HV.out.g0 m hlt;have g1 := HV.out.g1 m hlt;have gb := Cf.gran_bd HV.out m (by omega);have HBE : Hid (Cf.begin_ st cls m 0 = 16 * Cf.gran st cls m) := by show _ = _; unfold Cf.begin_; omega
    have hst : Hid (Cf.cslotFrom st cls addr (f + 1) m = if Cf.hasB st cls addr m then ((m : Int), (addr - 16 * Cf.gran st cls m) / (16 * Cf.gr cls m)) else Cf.cslotFrom st cls addr f (m + 1)) := rfl;have hhas : Hid (Cf.hasB st cls addr m = (decide (16 * Cf.gran st cls m ≤ addr) && decide (addr < 16 * Cf.gran st cls m + (Cf.sl cls m) * (16 * Cf.gr cls m)))) := rfl;have hpr := Cf.prod_bd (by omega) s1 (by omega) g1;have hcm : Cf.sl cls m * (16 * Cf.gr cls m) = 16 * Cf.gr cls m * Cf.sl cls m := Int.mul_comm _ _;have hcm2 : 16 * Cf.gr cls m * Cf.sl cls m = 16 * (Cf.sl cls m * Cf.gr cls m) := by rw [Int.mul_assoc, Int.mul_comm (Cf.gr cls m)]
    have hprod0 : 0 ≤ 16 * Cf.gr cls m * Cf.sl cls m := by omega
    have hprod1 : 16 * Cf.gr cls m * Cf.sl cls m ≤ 2048 := by omega
    rw [hcm] at hhas;have HMI : (m : Int) < (cls.length : Int) := by omega
    have hw0 : w.heap.size ≤ wr.heap.size := HB.out.size;clear hm d0 d1 hcm hcm2 hpr
    go_wp2_with fail
    refine (kbegin_any st rest _ cap cls m 0 wr HV.out (HH.out.below HB.out) (by omega) (by omega) (by omega) (by omega)).mono ?_;rw [Int.toNat_natCast, HBE.out];rintro e1 w1 ⟨rfl, hb1⟩;have q2 := (hb1.cell (p := ⟨w.heap.size, 2, none⟩) hlt0).trans k2;have q0 := (hb1.cell (p := ⟨g, off + m * 2, none⟩) (Nat.lt_of_lt_of_le hgl hw0)).trans d0';have q1 := (hb1.cell (p := ⟨g, off + m * 2 + 1, none⟩) (Nat.lt_of_lt_of_le hgl hw0)).trans d1';have HB1 := hide2 (HB.out.trans (hb1.mono HB.out.size));have HC1 := hide2 (HCC.out.below hb1 HCC.out.lt);clear d0' d1' k0 k1 k2 hb1;generalize Cf.gran st cls m = x at *;generalize Cf.gr cls m = y at *;generalize Cf.sl cls m = z at *
    by_cases hi : 16 * x ≤ addr ∧ addr < 16 * x + 16 * y * z
    ·obtain ⟨i1, i2⟩ := hi;have hd0 : 0 ≤ (addr - 16 * x) / (16 * y) := Int.ediv_nonneg (by omega) (by omega)
     have hfin : Hid (Cf.slot st cls addr = ((m : Int), (addr - 16 * x) / (16 * y))) := by
      show _ = _;rw [hs.out, hst.out, if_pos (show Cf.hasB st cls addr m = true by rw [hhas.out]; simp [i1, i2]), if_neg (by simp)]
     have hy : 0 < 16 * y := by omega
     clear hs hst hhas;go_wp2
     go_quiet (fail)
     go_wp2;go_ret2;exact ⟨by rw [hfin.out]; rfl, below_drewN HB1.out _⟩
    ·have hfin : Hid (Cf.slot st cls addr = if (Cf.cslotFrom st cls addr f (m + 1)).1 < 0 then (-1, -1) else Cf.cslotFrom st cls addr f (m + 1)) := by
      show _ = _;rw [hs.out, hst.out, if_neg (show ¬ Cf.hasB st cls addr m = true by rw [hhas.out]; simpa using hi)]
     clear hs hst hhas
     by_cases i1 : 16 * x ≤ addr
     ·have i2 : 16 * x + 16 * y * z ≤ addr := by omega
      clear hi;go_wp2
      go_roundw
      case rel => exact ⟨m + 1, f, by have := HM.out; omega, by go_num, hfin, HB1.out, HC1.out⟩
      case measure => simp [intOf]; omega
     ·clear hi;go_wp2
      go_roundw
      case rel => exact ⟨m + 1, f, by have := HM.out; omega, by go_num, hfin, HB1.out, HC1.out⟩
      case measure => simp [intOf]; omega
set_option maxRecDepth 100000 in
set_option maxHeartbeats 1600000 in
theorem kclass_any (st rest : Int) (a : Option Addr) (cap : Nat) (cls : List (Int × Int)) (size : Int) (w : World) (hv : Cf.Valid st rest cls) (h : CRow w a cap cls) :
 Calls Tryz.prog 125 #[.agg #[.int .i64 st, .int .i64 rest, .slice a cls.length cap], .int .i64 size] w fun e w' => e = .returned (.int .i64 (gcls cls size)) ∧ Below w.heap.size w w' := by
 obtain ⟨g, off, rfl, hgl, hcell⟩ := h.cells hv.n0;have hlen := h.len;have hcap := h.cap;have n1 := hv.n1;have n0 := hv.n0;unfold maxLen at hcap;have HV := hide2 hv;have HC : Hid (∀ i, i < cls.length → w.cell? ⟨g, off + i * 2, none⟩ = some (.int .i64 (Cf.gr cls i)) ∧ w.cell? ⟨g, off + i * 2 + 1, none⟩ = some (.int .i64 (Cf.sl cls i))) := hcell;clear hv h hcell
 by_cases h1 : size < 1
 ·have hres : Hid (gcls cls size = -1) := if_pos (.inl h1);have hs0 : ¬ (0 : Int) < size := by omega
  go_enter Tryz.func125, Tryz.ntmps125;go_wp2
  go_loopw [5] (fun i wr => i = .int .i64 0 ∧ Below w.heap.size w wr ∧ wr.cell? ⟨w.heap.size, 2, none⟩ = some (.slice (some ⟨g, off, none⟩) cls.length cap)) (fun _ _ => 0)
  case atStart => exact ⟨rfl, (Below.refl _ _).alloc (Nat.le_refl _) _, by simp⟩
  case round =>
   obtain ⟨rfl, hb, k2⟩ := hrel;have hl0 : (0 : Int) < (cls.length : Int) := by omega
   go_wp2;go_ret;exact ⟨ret_int hres.out.symm, hb⟩
 ·have hres : Hid (gcls cls size = if Ref.cls_ cls size = cls.length then -1 else (Ref.cls_ cls size : Int)) := by
   show _ = _;simp [gcls, h1]
  have hs0 : (0 : Int) < size := by omega
  go_enter Tryz.func125, Tryz.ntmps125;go_wp2
  go_loopw [5] (fun i wr => ∃ m f : Nat, m + f = cls.length ∧ i = .int .i64 (m : Int) ∧ Hid (Ref.cls_ cls size = Ref.classFrom cls size f m) ∧ Below w.heap.size w wr ∧ wr.cell? ⟨w.heap.size, 2, none⟩ = some (.slice (some ⟨g, off, none⟩) cls.length cap)) (fun i _ => cls.length - (intOf i).toNat)
  case atStart => exact ⟨0, cls.length, by omega, rfl, rfl, (Below.refl _ _).alloc (Nat.le_refl _) _, by simp⟩
  case round =>
   obtain ⟨m, f, hm, rfl, hc, hb, k2⟩ := hrel
   cases f with
   | zero =>
     have hm3 : ¬ (m : Int) < (cls.length : Int) := by omega
     have hfin : Hid (gcls cls size = -1) := by
      show _ = _;rw [hres.out, if_pos (by rw [hc.out]; show m = _; omega)]
     clear hm;go_wp2;go_ret;exact ⟨ret_int hfin.out.symm, hb⟩
   | succ f =>
     have hlt : m < cls.length := by omega
     obtain ⟨d0, d1⟩ := HC.out m hlt;have d0' := (hb.cell (p := ⟨g, off + m * 2, none⟩) hgl).trans d0;have g0 := HV.out.g0 m hlt;have g1 := HV.out.g1 m hlt;have HM := hide2 hm;have hst : Hid (Ref.classFrom cls size (f + 1) m = if 16 * Cf.gr cls m < size then Ref.classFrom cls size f (m + 1) else m) := rfl;have hltI : (m : Int) < (cls.length : Int) := by omega
     clear hm d0 d1
     by_cases hq : 16 * Cf.gr cls m < size
     ·have hfin : Hid (Ref.cls_ cls size = Ref.classFrom cls size f (m + 1)) := by show _ = _; rw [hc.out, hst.out, if_pos hq]
      clear hst hc;generalize Cf.gr cls m = x at *;go_wp2
      go_roundw
      case rel => exact ⟨m + 1, f, by have := HM.out; omega, by go_num, hfin, hb, k2⟩
      case measure => simp [intOf]; omega
     ·have hfin : Hid (gcls cls size = (m : Int)) := by
       show _ = _;have e : Ref.cls_ cls size = m := by rw [hc.out, hst.out, if_neg hq]
       rw [hres.out, e, if_neg (by omega)]
      clear hst hc;generalize Cf.gr cls m = x at *;go_wp2;go_ret;exact ⟨ret_int hfin.out.symm, hb⟩
set_option maxHeartbeats 800000 in
theorem kwhole_any (size : Int) (w : World) (h0 : 1 ≤ size) (h1 : size ≤ 128) :
 Calls Tryz.prog 128 #[.int .i64 size] w fun e w' => e = .returned (.int .i64 (16 * Ref.gsz size)) ∧ w = w' := by
 have hg : Hid (16 * Ref.gsz size = (size + 16 - 1) / 16 * 16) := by show _ = _; unfold Ref.gsz; omega
 go_enter Tryz.func128, Tryz.ntmps128;go_wp2;go_ret;exact ⟨ret_int (by rw [hg.out]), rfl⟩
theorem GRep.slotBytes {w : World} {p : Nat} {vc : Value} {bb : Nat} {G : GSt} (h : GRep w p vc bb G) (k s : Nat) (hk : k < G.cs.length) (hs : s < (G.cs.getD k GCls.no).slots.length) :
 ∃ g cap, vc = .slice (some ⟨g, 0, none⟩) G.cs.length cap ∧ cap ≤ maxLen ∧ g < w.heap.size ∧ w.cell? ⟨p, 2, none⟩ = some vc ∧
  w.cell? ⟨g, k * 3 + 2, none⟩ = some (.slice (some ⟨(G.cs.getD k GCls.no).sb, 0, none⟩) (G.cs.getD k GCls.no).slots.length (G.cs.getD k GCls.no).slots.length) ∧
  w.cell? ⟨(G.cs.getD k GCls.no).sb, s * 6 + 2, none⟩ = some (.int .i64 (slotOf G k s).bytes) := by
 obtain ⟨ac, cap, rfl, hcap, hmax, hrow⟩ := row_open h.cls;obtain ⟨g, rfl, hgl, hcell, _⟩ := hrow (by omega);exact ⟨g, cap, rfl, hmax, hgl, h.blk.cell (j := 2) rfl, (gcls_cells hcell k hk).2.2, (slot_cells (h.slots k hk) s hs).2.2.1⟩
theorem Sim.slotBytes {G : GSt} {R : RSt} (h : Sim G R) (k s : Nat) (hk : k < R.cls.length) (hs : s < (Cf.sl R.cls k).toNat) (hg : 0 ≤ Ref.given R.log k s) : (slotOf G k s).bytes = 16 * (R.log.getD (Ref.given R.log k s).toNat Ref.Ev.no).size := (h.slots k s hk hs).bytes hg
theorem live_given {log : List Ref.Ev} {k s : Int} (h : Ref.state log k s = 3) : 0 ≤ Ref.given log k s := by
 rcases state_of log k s with x | x | x <;> omega
set_option maxRecDepth 100000 in
set_option maxHeartbeats 1600000 in
theorem gusable_any (p : Nat) (vc : Value) (bb : Nat) (G : GSt) (R : RSt) (q : Int) (w : World) (h : GRep w p vc bb G) (hs : Sim G R) (q1 : q ≤ 9223372036854775807) :
 Calls Tryz.prog 114 #[.pointer (some ⟨p, 0, none⟩), .int .i64 q] w fun e w' => e = .returned (.tuple #[.int .i64 (R.usable q).1, .int .i64 (R.usable q).2]) ∧ Below w.heap.size w w' := by
 have HR := hide2 h;have HS := hide2 hs;have HBL := hide2 (hs.block q)
 rcases block_cases R.st R.cls R.log q with he | ⟨k, s, he, hk, hsl, h3⟩
 ·have HF : Hid (R.usable q = (0, (Ref.block R.st R.cls R.log q).2.2)) := if_pos he;have heb : ((Ref.block R.st R.cls R.log q).2.2 != 0) = true := by simp [he]
  clear h hs he;go_enter Tryz.func114, Tryz.ntmps114
  go_wp2_with (go_at_call 139; refine (blockOf_all p vc bb G R.rest R.cls q w HR.out HS.out.ok q1).mono ?_; rw [HBL.out]; rintro e1 w1 ⟨rfl, hb1⟩)
  go_ret2;exact ⟨by rw [HF.out]; rfl, hb1⟩
 ·have hgv := live_given h3;have hkl : k < G.cs.length := by rw [hs.ok.len]; exact hk
  have hsl2 : s < (G.cs.getD k GCls.no).slots.length := by rw [hs.len hk]; exact hsl
  have HF : Hid (R.usable q = ((slotOf G k s).bytes, 0)) := by
   show _ = _;unfold RSt.usable;rw [he, if_neg (by simp), hs.slotBytes k s hk hsl hgv]
  have HE := hide2 he;have hp := h.blk.lt;have hsb := (h.slots k hkl).lt;obtain ⟨g, cap, rfl, hmax, hgl, c2, d2, x2⟩ := h.slotBytes k s hkl hsl2;unfold maxLen at hmax;have hl4 : G.cs.length ≤ 4 := by have := hs.ok.conf.n1; have := hs.ok.len; omega
  have hx16 : (G.cs.getD k GCls.no).slots.length ≤ 16 := by have := hs.ok.sl k hk; have := hs.ok.conf.s1 k hk; omega
  have hkI : (k : Int) < (G.cs.length : Int) := by omega
  have hsI : (s : Int) < ((G.cs.getD k GCls.no).slots.length : Int) := by omega
  generalize (G.cs.getD k GCls.no).sb = sb at *;generalize (G.cs.getD k GCls.no).slots = xs at *;generalize (slotOf G k s).bytes = by_ at *;clear h hs he h3 hgv hsl;go_enter Tryz.func114, Tryz.ntmps114
  go_wp2_with fail
  refine (blockOf_all p _ bb G R.rest R.cls q w HR.out HS.out.ok q1).mono ?_;rw [HBL.out, HE.out];rintro e1 w1 ⟨rfl, hb1⟩;have c2' := (hb1.cell (p := ⟨p, 2, none⟩) hp).trans c2;have d2' := (hb1.cell (p := ⟨g, k * 3 + 2, none⟩) hgl).trans d2;have x2' := (hb1.cell (p := ⟨sb, s * 6 + 2, none⟩) hsb).trans x2;clear c2 d2 x2;go_wp2;go_ret2;exact ⟨by rw [HF.out]; rfl, hb1⟩
structure ReOk (G : GSt) (R : RSt) (q size draw site : Int) (k s k' s' : Nat) (tg : Nat) : Prop where
 old : Ref.block R.st R.cls R.log q = ((k : Int), (s : Int), 0)
 hk : k < R.cls.length
 hs : s < (Cf.sl R.cls k).toNat
 h1 : 1 ≤ size
 hz : size ≤ 16 * Cf.gr R.cls k'
 hk' : k' < R.cls.length
 hs' : s' < (Cf.sl R.cls k').toNat
 t0 : 1 ≤ tg
 t1 : tg ≤ 14
 out : mOut R size draw = ((tg : Int) * 72057594037927936 + Cf.begin_ R.st R.cls k' s', 0)
 mr : mR R size draw site = ⟨R.st, R.rest, R.cls, R.log ++ [⟨false, k', s', tg, Ref.gsz size, site⟩], R.marks⟩
 ne : ¬ (k = k' ∧ s = s')
theorem re_cases {G : GSt} {R : RSt} (h : SimB G R) (q size draw site : Int) :
 (Ref.block R.st R.cls R.log q).2.2 ≠ 0 ∨ (mOut R size draw).2 ≠ 0 ∨ ∃ k s k' s' tg : Nat, ReOk G R q size draw site k s k' s' tg := by
 rcases block_cases R.st R.cls R.log q with he | ⟨k, s, he, hk, hsl, h3⟩
 ·exact .inl he
 ·right
  rcases mOut_cases R h.sim.rok size draw with ⟨_, hm⟩ | ⟨k', _, _, _, _, hm⟩ | ⟨k', s', h1, hk', hkl', hf, hs', hz, hm⟩
  ·left; rw [hm]; decide
  ·left; rw [hm]; decide
  ·right
   refine ⟨k, s, k', s', Ref.tagOf R.log k' s' draw, he, hk, hsl, h1, hz, hkl', hs', PickMath.pick_lo _ _ _ _, PickMath.pick_hi _ _ _ _, hm, mR_ok hk' hf (by rw [hm]), ?_⟩;rintro ⟨rfl, rfl⟩;have hat := Ref.firstFrom_at (Ref.openB R.log R.rest k) (Cf.sl R.cls k).toNat 0 (by change 0 ≤ Ref.first R.log R.rest R.cls k; omega);have h2 := hat.2;change Ref.openB R.log R.rest k (Ref.first R.log R.rest R.cls k).toNat = true at h2;rw [hf, Int.toNat_natCast] at h2;unfold Ref.openB at h2;simp [h3] at h2
section
variable {G : GSt} {R : RSt} {q size draw site : Int} {k s k' s' tg : Nat}
theorem ReOk.gives (_h : ReOk G R q size draw site k s k' s' tg) : (⟨false, (k' : Int), (s' : Int), (tg : Int), Ref.gsz size, site⟩ : Ref.Ev).gives k' s' = true := (gives_eq _ _ _ _ _ _ _).2 ⟨rfl, rfl⟩
theorem ReOk.gives_old (h : ReOk G R q size draw site k s k' s' tg) : (⟨false, (k' : Int), (s' : Int), (tg : Int), Ref.gsz size, site⟩ : Ref.Ev).gives k s = false := by
 cases e : (⟨false, (k' : Int), (s' : Int), (tg : Int), Ref.gsz size, site⟩ : Ref.Ev).gives k s
 ·rfl
 ·exact absurd ((gives_eq _ _ _ _ _ _ _).1 e) h.ne
theorem ReOk.bnew (h : ReOk G R q size draw site k s k' s' tg) (hs : SimB G R) : 32 ≤ Cf.begin_ R.st R.cls k' s' ∧ Cf.begin_ R.st R.cls k' s' ≤ 8640 ∧ Cf.begin_ R.st R.cls k' s' + 16 * Cf.gr R.cls k' + 16 ≤ (G.mem.length : Int) := by
 have hv := hs.sim.rok.conf;have e := Cf.begin_end hv k' s' h.hk' (by have := h.hs'; omega);have b := Cf.begin_bd hv k' h.hk' s' (by omega) (by have := hv.s1 k' h.hk'; have := h.hs'; omega);have m := hs.sim.mem;rw [hs.sim.st] at m;omega
theorem ReOk.bold (h : ReOk G R q size draw site k s k' s' tg) (hs : SimB G R) : 32 ≤ Cf.begin_ R.st R.cls k s ∧ Cf.begin_ R.st R.cls k s ≤ 8640 ∧ Cf.begin_ R.st R.cls k s + 16 * Cf.gr R.cls k + 16 ≤ (G.mem.length : Int) := by
 have hv := hs.sim.rok.conf;have e := Cf.begin_end hv k s h.hk (by have := h.hs; omega);have b := Cf.begin_bd hv k h.hk s (by omega) (by have := hv.s1 k h.hk; have := h.hs; omega);have m := hs.sim.mem;rw [hs.sim.st] at m;omega
theorem ReOk.oldAt (h : ReOk G R q size draw site k s k' s' tg) (hs : SimB G R) : Ref.tameB q = true ∧ Cf.begin_ R.st R.cls k s = q % 72057594037927936 ∧ Ref.last R.log k s = q / 72057594037927936 ∧ Ref.state R.log k s = 3 :=
 ((block_iff hs.sim.rok.conf R.log q k s).1 h.old).2.2
theorem ReOk.old1 (h : ReOk G R q size draw site k s k' s' tg) (hs : SimB G R) : Ref.block (mR R size draw site).st (mR R size draw site).cls (mR R size draw site).log q = ((k : Int), (s : Int), 0) := by
 obtain ⟨h1, h2, h3, h4⟩ := h.oldAt hs;rw [h.mr];refine (block_iff hs.sim.rok.conf _ q k s).2 ⟨h.hk, h.hs, h1, h2, ?_, ?_⟩
 ·show Ref.last (R.log ++ [_]) k s = _;rw [last_other _ _ _ _ h.gives_old, h3]
 ·show Ref.state (R.log ++ [_]) k s = 3;rw [state_other _ _ _ _ h.gives_old (takes_no _ _ _ _ _ _ _), h4]
theorem ReOk.new1 (h : ReOk G R q size draw site k s k' s' tg) (hs : SimB G R) : Ref.block (mR R size draw site).st (mR R size draw site).cls (mR R size draw site).log (mOut R size draw).1 = ((k' : Int), (s' : Int), 0) := by
 have hb := h.bnew hs;have t0 := h.t0;have t1 := h.t1;rw [h.mr, h.out];refine (block_iff hs.sim.rok.conf _ _ k' s').2 ⟨h.hk', h.hs', (tame_iff _).2 ⟨by show 0 ≤ _ + _; omega, by show (_ + _) / _ ≤ _; omega, by show (_ + _) % _ ≤ _; omega⟩, by show _ = (_ + _) % _; omega, ?_, ?_⟩
 ·show Ref.last (R.log ++ [_]) k' s' = _;rw [last_gives _ _ _ _ h.gives];show (tg : Int) = ((tg : Int) * 72057594037927936 + _) / _;omega
 ·show Ref.state (R.log ++ [_]) k' s' = 3;exact state_gives _ _ _ _ h.gives
theorem ReOk.len (h : ReOk G R q size draw site k s k' s' tg) (hs : SimB G R) : ∃ z : Int, 1 ≤ z ∧ z ≤ Cf.gr R.cls k ∧ (R.log.getD (Ref.given R.log k s).toNat Ref.Ev.no).size = z ∧ ((mR R size draw site).usable q).1 = 16 * z ∧ ((mR R size draw site).usable (mOut R size draw).1).1 = 16 * Ref.gsz size ∧
 (slotOf (mG G R size draw site) k s).bytes = 16 * z := by
 have hgv := live_given (h.oldAt hs).2.2.2;have hf := hs.fits.size k s hgv
 have hsz : ((mR R size draw site).log.getD (Ref.given (mR R size draw site).log k s).toNat Ref.Ev.no).size = (R.log.getD (Ref.given R.log k s).toNat Ref.Ev.no).size := by
  rw [h.mr];show ((R.log ++ [_]).getD (Ref.given (R.log ++ [_]) k s).toNat Ref.Ev.no).size = _;rw [size_other _ _ _ _ h.gives_old hgv]
 have hg1 : 0 ≤ Ref.given (mR R size draw site).log k s := by
  rw [h.mr];show 0 ≤ Ref.given (R.log ++ [_]) k s;rw [given_other _ _ _ _ h.gives_old]; exact hgv
 have hsm := sim_malloc hs.sim size draw site;have hc : (mR R size draw site).cls = R.cls := by rw [h.mr]
 refine ⟨_, hf.1, hf.2, rfl, ?_, ?_, ?_⟩
 ·unfold RSt.usable;rw [h.old1 hs, if_neg (by simp)];show 16 * _ = _;rw [hsz]
 ·unfold RSt.usable;rw [h.new1 hs, if_neg (by simp), h.mr];show 16 * ((R.log ++ [_]).getD (Ref.given (R.log ++ [_]) k' s').toNat Ref.Ev.no).size = _;rw [size_gives _ _ _ _ h.gives]
 ·rw [hsm.slotBytes k s (by rw [hc]; exact h.hk) (by rw [hc]; exact h.hs) hg1, hsz]
def reG (G : GSt) (R : RSt) (q size draw site : Int) : GSt :=
 if R.reBad q then G else if (mOut R size draw).2 ≠ 0 ∨ q = 0 then mG G R size draw site
 else fG ⟨(mG G R size draw site).st, (mG G R size draw site).rest, (mG G R size draw site).cs, copyTo (mG G R size draw site).mem ((mOut R size draw).1 % 72057594037927936).toNat (q % 72057594037927936).toNat (R.reN q size draw site)⟩
  ((mR R size draw site).copies ((mOut R size draw).1 % 72057594037927936) (q % 72057594037927936) (R.reN q size draw site)) q site
theorem ReOk.out_at (h : ReOk G R q size draw site k s k' s' tg) (hs : SimB G R) : (mOut R size draw).1 % 72057594037927936 = Cf.begin_ R.st R.cls k' s' := by
 have hb := h.bnew hs;rw [h.out];show ((tg : Int) * 72057594037927936 + _) % _ = _;omega
theorem ReOk.n (h : ReOk G R q size draw site k s k' s' tg) (hs : SimB G R) : ∃ z : Int, 1 ≤ z ∧ z ≤ Cf.gr R.cls k ∧ (slotOf (mG G R size draw site) k s).bytes = 16 * z ∧ (R.reN q size draw site : Int) = min (16 * z) (16 * Ref.gsz size) := by
 obtain ⟨z, z0, z1, _, h1, h2, h3⟩ := h.len hs;refine ⟨z, z0, z1, h3, ?_⟩;have hf := gsz_fit h.h1 h.hz;unfold RSt.reN;rw [h1, h2];omega
theorem mG_memlen (G : GSt) (R : RSt) (size draw site : Int) : (mG G R size draw site).mem.length = G.mem.length := by
 unfold mG; split
 ·exact clearTo_len _ _ _
 ·rfl
theorem ReOk.copy (h : ReOk G R q size draw site k s k' s' tg) (hs : SimB G R) :
 SimB ⟨(mG G R size draw site).st, (mG G R size draw site).rest, (mG G R size draw site).cs, copyTo (mG G R size draw site).mem ((mOut R size draw).1 % 72057594037927936).toNat (q % 72057594037927936).toNat (R.reN q size draw site)⟩
  ((mR R size draw site).copies ((mOut R size draw).1 % 72057594037927936) (q % 72057594037927936) (R.reN q size draw site)) := by
 obtain ⟨z, z0, z1, hby, hn⟩ := h.n hs;have hf := gsz_fit h.h1 h.hz;have hb := h.bnew hs;have ho := h.bold hs;have ha := h.oldAt hs;have hv := hs.sim.rok.conf;have hm := mG_memlen G R size draw site;have hst : (mR R size draw site).st = R.st := by rw [h.mr]
 have hcl : (mR R size draw site).cls = R.cls := by rw [h.mr]
 have hre : (mR R size draw site).rest = R.rest := by rw [h.mr]
 have hs1 := hs.malloc size draw site
 have hl1 : Ref.state (mR R size draw site).log k s = 3 := by
  rw [h.mr];show Ref.state (R.log ++ [_]) k s = 3;rw [state_other _ _ _ _ h.gives_old (takes_no _ _ _ _ _ _ _), ha.2.2.2]
 rw [h.out_at hs, ← ha.2.1]
 have dis : Cf.begin_ R.st R.cls k s + 16 * Cf.gr R.cls k ≤ Cf.begin_ R.st R.cls k' s' ∨ Cf.begin_ R.st R.cls k' s' + 16 * Cf.gr R.cls k' ≤ Cf.begin_ R.st R.cls k s := by
  by_cases c1 : Cf.begin_ R.st R.cls k s + 16 * Cf.gr R.cls k ≤ Cf.begin_ R.st R.cls k' s'
  ·exact .inl c1
  ·by_cases c2 : Cf.begin_ R.st R.cls k' s' + 16 * Cf.gr R.cls k' ≤ Cf.begin_ R.st R.cls k s
   ·exact .inr c2
   ·exfalso;apply h.ne;have e1 := slot_at hv k s h.hk h.hs (max (Cf.begin_ R.st R.cls k s) (Cf.begin_ R.st R.cls k' s')) (by omega) (by have := hv.g0 k h.hk; omega);have e2 := slot_at hv k' s' h.hk' h.hs' (max (Cf.begin_ R.st R.cls k s) (Cf.begin_ R.st R.cls k' s')) (by omega) (by have := hv.g0 k' h.hk'; omega);rw [e1] at e2;have x1 := congrArg Prod.fst e2;have x2 := congrArg Prod.snd e2;simp at x1 x2;omega
 have hfs := hs1.fits.size k s (live_given hl1);have hft := hs1.fits.tag k s (live_given hl1);have hbz := hs1.sim.slotBytes k s (by rw [hcl]; exact h.hk) (by rw [hcl]; exact h.hs) (live_given hl1)
 have e := hs1.copy (Cf.begin_ R.st R.cls k' s').toNat (Cf.begin_ R.st R.cls k s).toNat (R.reN q size draw site) (by omega) (by omega) (by omega) (fun j hj => by
  have ht := tag_live (R := mR R size draw site) (by rw [hst, hcl, hre]; exact hv) k s (by rw [hcl]; exact h.hk) (by rw [hcl]; exact h.hs) hl1 (((Cf.begin_ R.st R.cls k s).toNat : Int) + (j : Int)) (by rw [hst, hcl]; omega) (by rw [hst, hcl]; omega) hfs.2;rw [ht]; omega)
 rw [show (((Cf.begin_ R.st R.cls k' s').toNat : Nat) : Int) = Cf.begin_ R.st R.cls k' s' by omega, show (((Cf.begin_ R.st R.cls k s).toNat : Nat) : Int) = Cf.begin_ R.st R.cls k s by omega] at e;exact e
end
theorem SimB.realloc {G : GSt} {R : RSt} (h : SimB G R) (q size draw site : Int) : SimB (reG G R q size draw site) (R.re q size draw site) := by
 unfold reG RSt.re
 by_cases hb : R.reBad q
 ·rw [if_pos hb, if_pos hb]; exact h
 ·rw [if_neg hb, if_neg hb]
  by_cases hm : (mOut R size draw).2 ≠ 0 ∨ q = 0
  ·rw [if_pos hm, if_pos hm]; exact h.malloc size draw site
  ·rw [if_neg hm, if_neg hm];refine SimB.free_any ?_ q site
   rcases re_cases h q size draw site with x | x | ⟨k, s, k', s', tg, hr⟩
   ·exact absurd ⟨fun e => hm (.inr e), x⟩ hb
   ·exact absurd (.inl x) hm
   ·exact hr.copy h
theorem reG_foot {G : GSt} {R : RSt} (h : SimB G R) (q size draw site : Int) (p : Nat) (gc : Value) (bb b : Nat) : GFoot p gc bb (reG G R q size draw site) b ↔ GFoot p gc bb G b := by
 unfold reG
 by_cases hb : R.reBad q
 ·rw [if_pos hb]
 ·rw [if_neg hb]
  by_cases hm : (mOut R size draw).2 ≠ 0 ∨ q = 0
  ·rw [if_pos hm]; exact mG_foot h.sim size draw site p gc bb b
  ·rw [if_neg hm]
   rcases re_cases h q size draw site with x | x | ⟨k, s, k', s', tg, hr⟩
   ·exact absurd ⟨fun e => hm (.inr e), x⟩ hb
   ·exact absurd (.inl x) hm
   ·exact (fG_foot (hr.copy h).sim q site p gc bb b).trans ((mem_foot _ _ _ _ _ _).trans (mG_foot h.sim size draw site p gc bb b))
structure KBlk where
 p : Int
 k : Int
 s : Int
 want : List Int
 wb : Nat
 live : Bool
 site : Int
 gone : Int
def KBlk.no : KBlk := ⟨0, 0, 0, [], 0, false, 0, 0⟩
def spotCells (x : Int × Int) : List Value := [.int .i64 x.1, .int .i64 x.2]
def spotNo : Int × Int := (0, 0)
structure KSt where
 st : Int
 rest : Int
 cls : List (Int × Int)
 L : List KBlk
 F : List (Int × Int)
 now : Int
def KBlk.off (x : KBlk) (now : Int) : KBlk := ⟨x.p, x.k, x.s, x.want, x.wb, false, x.site, now⟩
def kleft (B : KSt) (i : Nat) : KSt := ⟨B.st, B.rest, B.cls, B.L.set i ((B.L.getD i KBlk.no).off B.now), B.F ++ [((B.L.getD i KBlk.no).k, (B.L.getD i KBlk.no).s)], B.now⟩
section
variable {w w' : World} {pb ph : Nat} {gc : Value} {bb : Nat} {G G' : GSt} {vc vL vF : Value} {B : KSt}
end
theorem spot_cells {w : World} {g : Nat} {F : List (Int × Int)} (hc : ∀ j u, (F.flatMap spotCells)[j]? = some u → w.cell? ⟨g, j, none⟩ = some u) (i : Nat) (hi : i < F.length) :
 w.cell? ⟨g, i * 2, none⟩ = some (.int .i64 (F.getD i spotNo).1) ∧ w.cell? ⟨g, i * 2 + 1, none⟩ = some (.int .i64 (F.getD i spotNo).2) := by
 have h6 : ∀ j, j < 2 → (F.flatMap spotCells)[i * 2 + j]? = (spotCells (F.getD i spotNo))[j]? := fun j hj => by
  rw [flat_get spotCells 2 (fun _ => rfl) F i j hj, List.getElem?_eq_getElem hi];simp [List.getD_eq_getElem?_getD, List.getElem?_eq_getElem hi]
 have hx := fun j (hj : j < 2) u hu => hc (i * 2 + j) u (by rw [h6 j hj]; exact hu)
 exact ⟨hx 0 (by omega) _ rfl, hx 1 (by omega) _ rfl⟩
def kliveTo (L : List KBlk) (k s : Int) : Nat → Bool
 | 0 => false
 | m + 1 => kliveTo L k s m || ((L.getD m KBlk.no).live && (L.getD m KBlk.no).k == k && (L.getD m KBlk.no).s == s)
def klive (L : List KBlk) (k s : Int) : Bool := kliveTo L k s L.length
def krestTo (F : List (Int × Int)) (rest k s : Int) : Nat → Int → Bool
 | 0, _ => false
 | m + 1, n => if n < rest then (if (F.getD m spotNo).1 = k then (if (F.getD m spotNo).2 = s then true else krestTo F rest k s m (n + 1)) else krestTo F rest k s m n) else false
def krests (F : List (Int × Int)) (rest k s : Int) : Bool := krestTo F rest k s F.length 0
def kliveN (L : List KBlk) (k : Int) : Nat → Nat
 | 0 => 0
 | m + 1 => kliveN L k m + if (L.getD m KBlk.no).live = true ∧ (L.getD m KBlk.no).k = k then 1 else 0
def kfreeN (F : List (Int × Int)) (rest k : Int) : Nat → Int
 | 0 => 0
 | m + 1 => if (F.getD m spotNo).1 = k ∧ kfreeN F rest k m < rest then kfreeN F rest k m + 1 else kfreeN F rest k m
theorem kfreeN_bd (F : List (Int × Int)) (rest k : Int) (m : Nat) (hr : 0 ≤ rest) : 0 ≤ kfreeN F rest k m ∧ kfreeN F rest k m ≤ rest := by
 induction m with
 | zero => simp [kfreeN]; exact hr
 | succ m ih => simp only [kfreeN]; split <;> omega
end Go.Proofs.YtjikemhmnkckcabGreat
