import Derived.Test.YtjikemhmnkckcabGreatJ30
namespace Go.Proofs.YtjikemhmnkckcabGreat
open Go.RowKit
attribute [local go_sem ↓] Go.wp_at_zero Go.wp_at_succ
section
variable (F : IFix) (wB : World) (vT vF : Value) (V : List Value) (col : Nat → Nat) (S : IS) (w : World)
set_option maxRecDepth 100000 in
set_option maxHeartbeats 800000 in
theorem istop_no (h : IRep F wB w vT vF V col S) :
 Calls Tryz.prog 101 #[.pointer (some ⟨F.mb, 0, none⟩), .int .i64 0] w fun e w' => e = .returned (.bool false) ∧ IRep F wB w' vT vF V col S ∧ Below w.heap.size w w' := by
 have HR := hide2 h;clear h;go_enter Tryz.func101, Tryz.ntmps101;go_wp2;go_ret;exact ⟨rfl, HR.out, Below.refl _ _⟩
set_option maxRecDepth 100000 in
set_option maxHeartbeats 800000 in
theorem istop_yes (h : IRep F wB w vT vF V col S) (how : Int) (hh : how = 101 ∨ how = 102) :
 Calls Tryz.prog 101 #[.pointer (some ⟨F.mb, 0, none⟩), .int .i64 how] w fun e w' => e = .returned (.bool true) ∧ IRep F wB w' vT vF V col (S.ends how) ∧ Kept w w' (· = F.mb) := by
 have HR := hide2 (h.setEn how);have c26 := h.c26;have f26 := h.blk.frozen 26;clear h
 rcases hh with rfl | rfl
 ·go_enter Tryz.func101, Tryz.ntmps101;go_wp2;go_ret;exact ⟨rfl, HR.out, (Kept.refl w _).setCell _ _ rfl⟩
 ·go_enter Tryz.func101, Tryz.ntmps101;go_wp2;go_ret;exact ⟨rfl, HR.out, (Kept.refl w _).setCell _ _ rfl⟩
set_option maxRecDepth 100000 in
set_option maxHeartbeats 1600000 in
theorem inumber_any (h : IRep F wB w vT vF V col S) (k : Nat) (hk : k < 8) :
 Calls Tryz.prog 67 #[.pointer (some ⟨F.mb, 0, none⟩), .int .i64 (k : Int)] w fun e w' => e = .returned (.int .i64 (iv S.r k).n) ∧ IRep F wB w' vT vF V col (S.num k) ∧ Kept w w' (· = F.mb) := by
 have c0 := h.cOf k hk;have c1 := h.cN k hk;have hkI : (k : Int) < 8 := by omega
 by_cases e : (iv S.r k).of = 0
 ·have HN : Hid (S.num k = S) := if_pos e;have HR := hide2 h;rw [e] at c0;clear h e;generalize (iv S.r k).n = n at *;go_enter Tryz.func67, Tryz.ntmps67;go_wp2;go_ret;exact ⟨rfl, by rw [HN.out]; exact HR.out, Kept.refl w _⟩
 ·have HN : Hid (S.num k = S.ends 102) := if_neg e;have HR := hide2 (h.setEn 102);have hne : (((iv S.r k).of : Int) != 0) = true := by simp; omega
  have c26 := h.c26;have f26 := h.blk.frozen 26;have c1' : (w.setCell ⟨F.mb, 26, none⟩ (.int .i64 102)).cell? ⟨F.mb, 7 + k * 2 + 1, none⟩ = some (.int .i64 (iv S.r k).n) := (h.setEn 102).cN k hk;clear h e;generalize (iv S.r k).n = n at *;generalize ((iv S.r k).of : Int) = o at *;go_enter Tryz.func67, Tryz.ntmps67;go_wp2;go_ret;exact ⟨rfl, by rw [HN.out]; exact HR.out, (Kept.refl w _).setCell _ _ rfl⟩
theorem wild_any (a : Int) : Calls Tryz.prog 130 #[.int .i64 a] w fun e w' => e = .returned (.bool (iWild a)) ∧ w = w' := by
 by_cases h : a < 0
 ·have HW : Hid (iWild a = true) := decide_eq_true (.inl h);go_enter Tryz.func130, Tryz.ntmps130;go_wp2;go_ret;exact ⟨by rw [HW.out]; rfl, rfl⟩
 ·by_cases h2 : 65535 < a
  ·have HW : Hid (iWild a = true) := decide_eq_true (.inr h2);go_enter Tryz.func130, Tryz.ntmps130;go_wp2;go_ret;exact ⟨by rw [HW.out]; rfl, rfl⟩
  ·have HW : Hid (iWild a = false) := decide_eq_false (by omega);go_enter Tryz.func130, Tryz.ntmps130;go_wp2;go_ret;exact ⟨by rw [HW.out]; rfl, rfl⟩
set_option maxRecDepth 100000 in
set_option maxHeartbeats 1600000 in
theorem ilast_any (h : IRep F wB w vT vF V col S) (k s : Int) (hl : 0 < S.T.length) (hlen : S.T.length ≤ 1000000) :
 Calls Tryz.prog 126 #[.pointer (some ⟨F.mb, 0, none⟩), .int .i64 k, .int .i64 s] w fun e w' => e = .returned (.int .i64 (iLast S.T k s : Int)) ∧ Below w.heap.size w w' := by
 have c5 := h.c5;have hmb := h.blk.lt;obtain ⟨g, cap, rfl, hcap, hmax, hg, -, hcell⟩ := h.things hl;have HCELL := hide2 hcell;unfold maxLen at hmax;clear h hcell;generalize S.T = T at *;go_enter Tryz.func126, Tryz.ntmps126;go_wp2
 go_loopw [7] (fun i wr => ∃ m : Nat, m ≤ T.length ∧ 1 ≤ m ∧ i = .int .i64 ((m : Int) - 1) ∧ Hid (iLast T k s = iLastTo T k s m) ∧ Below w.heap.size w wr) (fun i _ => (intOf i + 1).toNat)
 case atStart => exact ⟨T.length, by omega, by omega, by simp, rfl, Below.refl _ _⟩
 case round =>
  obtain ⟨m, hm, hm1, rfl, hres, hb⟩ := hrel;have c5' := (hb.cell (p := ⟨F.mb, 5, none⟩) hmb).trans c5;obtain ⟨m, rfl⟩ : ∃ j, m = j + 1 := ⟨m - 1, by omega⟩
  have hmI : ((m + 1 : Nat) : Int) - 1 = (m : Int) := by omega
  rw [hmI]
  by_cases h1 : m ≤ 1
  ·have HN : Hid (iLast T k s = 0) := by show _ = _; rw [hres.out]; show (if m ≤ 1 then 0 else _) = 0; rw [if_pos h1]
   have hI : (m : Int) ≤ 1 := by omega
   clear hres;go_wp2;go_ret;exact ⟨by rw [HN.out]; rfl, hb⟩
  ·have hst : Hid (iLastTo T k s (m + 1) = if (T.getD m IT.no).cls = k ∧ (T.getD m IT.no).slot = s then m else iLastTo T k s m) := by
    show _ = _;show (if m ≤ 1 then 0 else _) = _;rw [if_neg h1]
   have hI : 1 < (m : Int) := by omega
   have hmL : (m : Int) < (T.length : Int) := by omega
   obtain ⟨d0, d1, -, -⟩ := HCELL.out m (by omega);have d0' := (hb.cell (p := ⟨g, m * 4, none⟩) hg).trans d0;have d1' := (hb.cell (p := ⟨g, m * 4 + 1, none⟩) hg).trans d1;clear d0 d1;generalize (T.getD m IT.no).cls = xk at *;generalize (T.getD m IT.no).slot = xs at *
   by_cases hk : xk = k
   ·have hkb : (xk == k) = true := by simp [hk]
    by_cases hs : xs = s
    ·have hsb : (xs == s) = true := by simp [hs]
     have HY : Hid (iLast T k s = m) := by show _ = _; rw [hres.out, hst.out, if_pos ⟨hk, hs⟩]
     clear hk hs hst hres;go_wp2;go_ret;exact ⟨by rw [HY.out]; rfl, hb⟩
    ·have hsb : (xs == s) = false := by simp [hs]
     have HY : Hid (iLast T k s = iLastTo T k s m) := by show _ = _; rw [hres.out, hst.out, if_neg (fun x => hs x.2)]
     clear hk hs hst hres;go_wp2
     go_roundw
     case rel => exact ⟨m, by omega, by omega, rfl, HY, hb⟩
     case measure => simp [intOf]
   ·have hkb : (xk == k) = false := by simp [hk]
    have HY : Hid (iLast T k s = iLastTo T k s m) := by show _ = _; rw [hres.out, hst.out, if_neg (fun x => hk x.1)]
    clear hk hst hres;go_wp2
    go_roundw
    case rel => exact ⟨m, by omega, by omega, rfl, HY, hb⟩
    case measure => simp [intOf]
set_option maxRecDepth 100000 in
set_option maxHeartbeats 1600000 in
theorem irests_any (h : IRep F wB w vT vF V col S) (k s : Int) (hr : F.rest ≤ 1000) :
 Calls Tryz.prog 127 #[.pointer (some ⟨F.mb, 0, none⟩), .int .i64 k, .int .i64 s] w fun e w' => e = .returned (.bool (krests S.F F.rest k s)) ∧ Below w.heap.size w w' := by
 have c6 := h.c6;have c1 := h.c1;have hmb := h.blk.lt;obtain ⟨a, cap, rfl, hcap, hmax, hrow⟩ := row_open h.Fr;unfold maxLen at hmax;have HROW := hide2 hrow;clear h hrow;generalize S.F = L at *;generalize F.rest = rest at *;go_enter Tryz.func127, Tryz.ntmps127;go_wp2
 go_loopw [7, 8] (fun n i wr => ∃ (m : Nat) (x : Int), m ≤ L.length ∧ 0 ≤ x ∧ x ≤ 1000 ∧ i = .int .i64 ((m : Int) - 1) ∧ n = .int .i64 x ∧ Hid (krests L rest k s = krestTo L rest k s m x) ∧ Below w.heap.size w wr) (fun _ i _ => (intOf i + 1).toNat)
 case atStart => exact ⟨L.length, 0, by omega, by omega, by omega, by simp, rfl, rfl, Below.refl _ _⟩
 case round =>
  obtain ⟨m, x, hm, x0', x1', rfl, rfl, hres, hb⟩ := hrel;have c6' := (hb.cell (p := ⟨F.mb, 6, none⟩) hmb).trans c6;have c1' := (hb.cell (p := ⟨F.mb, 1, none⟩) hmb).trans c1
  cases m with
  | zero =>
    have HN : Hid (krests L rest k s = false) := hres.out;clear hres;go_wp2;go_ret;exact ⟨by rw [HN.out]; rfl, hb⟩
  | succ m =>
    have hst : Hid (krestTo L rest k s (m + 1) x = if x < rest then (if (L.getD m spotNo).1 = k then (if (L.getD m spotNo).2 = s then true else krestTo L rest k s m (x + 1)) else krestTo L rest k s m x) else false) := rfl;have hmI : ((m + 1 : Nat) : Int) - 1 = (m : Int) := by omega
    rw [hmI];have m0 : (0 : Int) ≤ (m : Int) := by omega
    have hmL : (m : Int) < (L.length : Int) := by omega
    by_cases hn : x < rest
    ·obtain ⟨g, rfl, hgl, hcell, _⟩ := HROW.out (by omega);obtain ⟨d0, d1⟩ := spot_cells hcell m (by omega);have d0' := (hb.cell (p := ⟨g, m * 2, none⟩) hgl).trans d0;have d1' := (hb.cell (p := ⟨g, m * 2 + 1, none⟩) hgl).trans d1;clear hcell d0 d1;generalize (L.getD m spotNo).1 = fk at *;generalize (L.getD m spotNo).2 = fs at *
     by_cases hk : fk = k
     ·have hkb : (fk == k) = true := by simp [hk]
      by_cases hs : fs = s
      ·have hsb : (fs == s) = true := by simp [hs]
       have HY : Hid (krests L rest k s = true) := by show _ = _; rw [hres.out, hst.out, if_pos hn, if_pos hk, if_pos hs]
       clear hk hs hst hres;go_wp2;go_ret;exact ⟨by rw [HY.out]; rfl, hb⟩
      ·have hsb : (fs == s) = false := by simp [hs]
       have HY : Hid (krests L rest k s = krestTo L rest k s m (x + 1)) := by show _ = _; rw [hres.out, hst.out, if_pos hn, if_pos hk, if_neg hs]
       clear hk hs hst hres;go_wp2
       go_roundw
       case rel => exact ⟨m, x + 1, by omega, by omega, by omega, rfl, rfl, HY, hb⟩
       case measure => simp [intOf]
     ·have hkb : (fk == k) = false := by simp [hk]
      have HY : Hid (krests L rest k s = krestTo L rest k s m x) := by show _ = _; rw [hres.out, hst.out, if_pos hn, if_neg hk]
      clear hk hst hres;go_wp2
      go_roundw
      case rel => exact ⟨m, x, by omega, by omega, by omega, rfl, rfl, HY, hb⟩
      case measure => simp [intOf]
    ·have HY : Hid (krests L rest k s = false) := by show _ = _; rw [hres.out, hst.out, if_neg hn]
     clear hst hres;go_wp2;go_ret;exact ⟨by rw [HY.out]; rfl, hb⟩
end
def AddrOk (e : Ending) : Prop := ∃ (b : Int) (ok : Bool), e = .returned (.tuple #[.int .i64 b, .bool ok]) ∧ -65536 ≤ b ∧ b ≤ 200000
def vV (v : IV) : Value := .agg #[.int .i64 (v.of : Int), .int .i64 v.n]
section
variable (F : IFix) (wB : World) (vT vF : Value) (V : List Value) (col : Nat → Nat) (S : IS) (w : World)
theorem IRep.vlen {F : IFix} {wB : World} {vT vF : Value} {V : List Value} {col : Nat → Nat} {S : IS} {w : World} (h : IRep F wB w vT vF V col S) (z0 : (S.T.getD 0 IT.no).cells.length = 0) (i : Nat) (hi : i < S.T.length) : ∃ a, V.getD i vNo = .slice a (S.T.getD i IT.no).cells.length (S.T.getD i IT.no).cells.length := by
 by_cases e : i = 0
 ·subst e; exact ⟨none, by rw [h.v0, z0]; rfl⟩
 ·obtain ⟨cb, hv, _⟩ := (h.vn i (by omega) hi).ex;exact ⟨_, hv⟩
set_option maxRecDepth 100000 in
set_option maxHeartbeats 1600000 in
theorem iwithin_any (h : IRep F wB w vT vF V col S) (v : IV) (hg : IGood F S) (hv : v.of < S.T.length) :
 Calls Tryz.prog 69 #[.pointer (some ⟨F.mb, 0, none⟩), vV v] w fun e w' => e = .returned (.bool (iWithin S.T v)) ∧ Below w.heap.size w w' := by
 obtain ⟨o, n⟩ := v;unfold vV;simp only at hv ⊢;obtain ⟨wa, hwa⟩ : ∃ wa, wa = w.alloc (.cells #[.int .i64 (o : Int), .int .i64 n] 107) := ⟨_, rfl⟩
 have HB : Hid (Below w.heap.size w wa) := by show Below _ _ _; rw [hwa]; exact (Below.refl _ _).alloc (Nat.le_refl _) _
 have HX : Hid (Blk wa w.heap.size 107 [.int .i64 (o : Int), .int .i64 n]) := by show Blk _ _ _ _; rw [hwa]; exact Blk.alloc _ _ _
 have hR := h.under HB.out;obtain ⟨g, cap, e5, hcap, hmax, hgl, -, hcell⟩ := hR.things (by have := hg.len; omega);obtain ⟨-, -, -, d3⟩ := hcell o hv;obtain ⟨a, ha⟩ := h.vlen hg.z0 o hv;rw [ha] at d3;have c5 := hR.c5;rw [e5] at c5;have hsm := hg.sm o;have hoI : (o : Int) < (S.T.length : Int) := by omega
 have x0 := HX.out.cell (j := 0) rfl;have x1 := HX.out.cell (j := 1) rfl;unfold maxLen at hmax
 by_cases h1 : 0 < o
 ·have h1I : (0 : Int) < (o : Int) := by omega
  by_cases h2 : 0 ≤ n
  ·by_cases h3 : n ≤ ((S.T.getD o IT.no).cells.length : Int)
   ·have HW : Hid (iWithin S.T ⟨o, n⟩ = true) := decide_eq_true ⟨h1, h2, h3⟩;clear h hR hcell ha e5;generalize (S.T.getD o IT.no).cells.length = len at *;go_enter Tryz.func69, Tryz.ntmps69;go_upto_region 1 with (fail);rw [← hwa];clear hwa
    go_quiet (fail)
    go_wp2;go_ret;exact ⟨by rw [HW.out]; rfl, below_drewN HB.out _⟩
   ·have HW : Hid (iWithin S.T ⟨o, n⟩ = false) := decide_eq_false (fun x => h3 x.2.2);clear h hR hcell ha e5;generalize (S.T.getD o IT.no).cells.length = len at *;go_enter Tryz.func69, Tryz.ntmps69;go_upto_region 1 with (fail);rw [← hwa];clear hwa
    go_quiet (fail)
    go_wp2;go_ret;exact ⟨by rw [HW.out]; rfl, below_drewN HB.out _⟩
  ·have HW : Hid (iWithin S.T ⟨o, n⟩ = false) := decide_eq_false (fun x => h2 x.2.1);clear h hR hcell ha e5;go_enter Tryz.func69, Tryz.ntmps69;go_upto_region 1 with (fail);rw [← hwa];clear hwa
   go_quiet (fail)
   go_wp2;go_ret;exact ⟨by rw [HW.out]; rfl, below_drewN HB.out _⟩
 ·have HW : Hid (iWithin S.T ⟨o, n⟩ = false) := decide_eq_false (fun x => h1 x.1);have h1d : decide ((0 : Int) < (o : Int)) = false := by simp; omega
  clear h hR hcell ha e5;go_enter Tryz.func69, Tryz.ntmps69;go_upto_region 1 with (fail);rw [← hwa];clear hwa
  go_quiet (fail)
  go_wp2;go_ret;exact ⟨by rw [HW.out]; rfl, below_drewN HB.out _⟩
theorem IGood.cls_or {F : IFix} {S : IS} (hg : IGood F S) (o : Nat) (ho : o < S.T.length) : (S.T.getD o IT.no).cls = -1 ∨ ∃ k s : Nat, (S.T.getD o IT.no).cls = k ∧ (S.T.getD o IT.no).slot = s ∧ k < F.cls.length ∧ s < (Cf.sl F.cls k).toNat := by
 by_cases e0 : o = 0
 ·subst e0; exact .inl hg.t0
 ·by_cases e1 : o = 1
  ·subst e1; exact .inl hg.t1
  ·exact .inr (hg.tn o (by omega) ho)
set_option maxRecDepth 100000 in
set_option maxHeartbeats 1600000 in
theorem ibase_any (h : IRep F wB w vT vF V col S) (o : Nat) (hg : IGood F S) (ho : o < S.T.length) :
 Calls Tryz.prog 152 #[.pointer (some ⟨F.mb, 0, none⟩), .int .i64 (o : Int)] w fun e w' => (∃ b : Int, e = .returned (.int .i64 b) ∧ 0 ≤ b ∧ b ≤ 100000) ∧ Below w.heap.size w w' := by
 obtain ⟨g, cap, e5, hcap, hmax, hgl, -, hcell⟩ := h.things (by have := hg.len; omega);obtain ⟨d0, d1, d2, d3⟩ := hcell o ho;obtain ⟨a, ha⟩ := h.vlen hg.z0 o ho;rw [ha] at d3;have c5 := h.c5;rw [e5] at c5;have hoI : (o : Int) < (S.T.length : Int) := by omega
 unfold maxLen at hmax;have HG := hide2 hg;have HR := hide2 h;have hc := hg.cls_or o ho;clear hcell ha e5 h hg;generalize (S.T.getD o IT.no).cells.length = len at *;generalize (S.T.getD o IT.no).live = lv at *
 rcases hc with hc | ⟨k, s, hk, hs, hkl, hsl⟩
 ·rw [hc] at d0;clear hc;generalize (S.T.getD o IT.no).slot = sl at *;go_enter Tryz.func152, Tryz.ntmps152;go_wp2;go_ret;exact ⟨⟨16, rfl, by omega, by omega⟩, (Below.refl _ _).alloc (Nat.le_refl _) _⟩
 ·rw [hk] at d0;rw [hs] at d1;clear hk hs;have hs1 := HG.out.conf.s1 k hkl;have hbd := Cf.begin_bd HG.out.conf k hkl s (by omega) (by omega);have HBD := hide2 hbd;clear hbd;go_enter Tryz.func152, Tryz.ntmps152;go_upto_region 4 with (fail);obtain ⟨wa, hwa⟩ : ∃ wa, wa = w.alloc (.cells #[.int .i64 (k : Int), .int .i64 (s : Int), .bool lv, .slice a len len] 113) := ⟨_, rfl⟩
  have HB : Hid (Below w.heap.size w wa) := by show Below _ _ _; rw [hwa]; exact (Below.refl _ _).alloc (Nat.le_refl _) _
  have HX : Hid (Blk wa w.heap.size 113 [.int .i64 (k : Int), .int .i64 (s : Int), .bool lv, .slice a len len]) := by show Blk _ _ _ _; rw [hwa]; exact Blk.alloc _ _ _
  have HRa := hide2 (HR.out.under HB.out);rw [← hwa];clear hwa c5 d0 d1 d2 d3 HR;have c0 := HRa.out.c0;have c1 := HRa.out.c1;have c2 := HRa.out.c2;have x0 := HX.out.cell (j := 0) rfl;have x1 := HX.out.cell (j := 1) rfl;have hmb := HRa.out.blk.lt;have hxl := HX.out.lt;have HCR : Hid (CRow wa.drew F.ca F.ccap F.cls) := HRa.out.crow.below ((Below.refl _ _).drew)
  go_region_held3 (fun w' => w'.cell? ⟨F.mb, 0, none⟩ = some (.int .i64 F.st) ∧ w'.cell? ⟨F.mb, 1, none⟩ = some (.int .i64 F.rest) ∧ w'.cell? ⟨F.mb, 2, none⟩ = some (.slice F.ca F.cls.length F.ccap) ∧ w'.cell? ⟨w.heap.size, 0, none⟩ = some (.int .i64 (k : Int)) ∧ w'.cell? ⟨w.heap.size, 1, none⟩ = some (.int .i64 (s : Int))) (go_keep)
   (first | (go_at_call 132; refine (kbegin_any F.st F.rest F.ca F.ccap F.cls (k : Int) (s : Int) wa.drew HG.out.conf HCR.out (by omega) (by omega) (by omega) (by omega)).mono ?_; rintro e1 w2 ⟨rfl, hb2⟩; have HB2 := hide2 hb2; have k0 : w2.cell? ⟨F.mb, 0, none⟩ = some (.int .i64 F.st) := (hb2.cell (p := ⟨F.mb, 0, none⟩) hmb).trans c0; have k1 : w2.cell? ⟨F.mb, 1, none⟩ = some (.int .i64 F.rest) := (hb2.cell (p := ⟨F.mb, 1, none⟩) hmb).trans c1; have k2 : w2.cell? ⟨F.mb, 2, none⟩ = some (.slice F.ca F.cls.length F.ccap) := (hb2.cell (p := ⟨F.mb, 2, none⟩) hmb).trans c2; have k3 : w2.cell? ⟨w.heap.size, 0, none⟩ = some (.int .i64 (k : Int)) := (hb2.cell (p := ⟨w.heap.size, 0, none⟩) hxl).trans x0; have k4 : w2.cell? ⟨w.heap.size, 1, none⟩ = some (.int .i64 (s : Int)) := (hb2.cell (p := ⟨w.heap.size, 1, none⟩) hxl).trans x1; clear hb2))
  have HFIN : Hid (Below w.heap.size w w2) := HB.out.trans ((show Below wa.heap.size wa w2 from ⟨HB2.out.os, HB2.out.tape, HB2.out.output, HB2.out.size, HB2.out.block⟩).mono HB.out.size);have hn := HBD.out;go_wp2;go_ret;exact ⟨⟨_, rfl, by omega, by omega⟩, HFIN.out⟩
set_option maxRecDepth 100000 in
set_option maxHeartbeats 1600000 in
theorem iaddress_any (h : IRep F wB w vT vF V col S) (v : IV) (hg : IGood F S) (hv : v.of < S.T.length) :
 Calls Tryz.prog 129 #[.pointer (some ⟨F.mb, 0, none⟩), vV v] w fun e w' => AddrOk e ∧ Below w.heap.size w w' := by
 obtain ⟨o, n⟩ := v;unfold vV;simp only at hv ⊢;obtain ⟨wa, hwa⟩ : ∃ wa, wa = w.alloc (.cells #[.int .i64 (o : Int), .int .i64 n] 107) := ⟨_, rfl⟩
 have HB : Hid (Below w.heap.size w wa) := by show Below _ _ _; rw [hwa]; exact (Below.refl _ _).alloc (Nat.le_refl _) _
 have HX : Hid (Blk wa w.heap.size 107 [.int .i64 (o : Int), .int .i64 n]) := by show Blk _ _ _ _; rw [hwa]; exact Blk.alloc _ _ _
 have HR := hide2 (h.under HB.out);have HG := hide2 hg;have x0 := HX.out.cell (j := 0) rfl;have x1 := HX.out.cell (j := 1) rfl;have hxl := HX.out.lt;clear h hg
 by_cases h1 : n < -65536
 ·go_enter Tryz.func129, Tryz.ntmps129;go_upto_region 1 with (fail);rw [← hwa];clear hwa;go_wp2;go_ret2;exact ⟨⟨0, false, rfl, by omega, by omega⟩, HB.out⟩
 ·by_cases h2 : 65536 < n
  ·go_enter Tryz.func129, Tryz.ntmps129;go_upto_region 1 with (fail);rw [← hwa];clear hwa;go_wp2;go_ret2;exact ⟨⟨0, false, rfl, by omega, by omega⟩, HB.out⟩
  ·go_enter Tryz.func129, Tryz.ntmps129;go_upto_region 1 with (fail);rw [← hwa];clear hwa
   go_wp2_with fail
   refine (ibase_any F wB vT vF V col S wa HR.out o HG.out hv).mono ?_;rintro e1 w1 ⟨⟨b, rfl, b0, b1⟩, hb1⟩;have x0' := (hb1.cell (p := ⟨w.heap.size, 0, none⟩) hxl).trans x0;have x1' := (hb1.cell (p := ⟨w.heap.size, 1, none⟩) hxl).trans x1;clear x0 x1;go_wp2;go_ret2;exact ⟨⟨b + n, true, rfl, by omega, by omega⟩, HB.out.trans (hb1.mono HB.out.size)⟩
set_option maxRecDepth 100000 in
set_option maxHeartbeats 3200000 in
theorem iafter_any (h : IRep F wB w vT vF V col S) (o : Nat) (ho : o < S.T.length) (hlen : S.T.length ≤ 1000000) :
 Calls Tryz.prog 153 #[.pointer (some ⟨F.mb, 0, none⟩), .int .i64 (o : Int)] w fun e w' => (∃ b : Int, e = .returned (.int .i64 b)) ∧ Below w.heap.size w w' := by
 have c5 := h.c5;have hmb := h.blk.lt;obtain ⟨g, cap, e5, hcap, hmax, hgl, -, hcell⟩ := h.things (by omega);rw [e5] at c5;have HCELL := hide2 hcell;unfold maxLen at hmax;clear h hcell e5;generalize S.T = T at *;have hoI : (o : Int) < (T.length : Int) := by omega
 go_enter Tryz.func153, Tryz.ntmps153;go_wp2
 go_loopw [5, 6] (fun n i wr => ∃ (m : Nat) (x : Int), o + 1 ≤ m ∧ m ≤ T.length ∧ 0 ≤ x ∧ x ≤ m ∧ i = .int .i64 (m : Int) ∧ n = .int .i64 x ∧ Below w.heap.size w wr) (fun _ i _ => T.length - (intOf i).toNat)
 case atStart => exact ⟨o + 1, 0, by omega, by omega, by omega, by omega, rfl, rfl, Below.refl _ _⟩
 case round =>
  obtain ⟨m, x, hm1, hm, x0, x1, rfl, rfl, hb⟩ := hrel;have c5' := (hb.cell (p := ⟨F.mb, 5, none⟩) hmb).trans c5
  by_cases hlt : m < T.length
  ·have hI : (m : Int) < (T.length : Int) := by omega
   obtain ⟨d0, d1, -, -⟩ := HCELL.out m hlt;obtain ⟨p0, p1, -, -⟩ := HCELL.out o ho;have d0' := (hb.cell (p := ⟨g, m * 4, none⟩) hgl).trans d0;have d1' := (hb.cell (p := ⟨g, m * 4 + 1, none⟩) hgl).trans d1;have p0' := (hb.cell (p := ⟨g, o * 4, none⟩) hgl).trans p0;have p1' := (hb.cell (p := ⟨g, o * 4 + 1, none⟩) hgl).trans p1;clear d0 d1 p0 p1;generalize (T.getD m IT.no).cls = xk at *;generalize (T.getD m IT.no).slot = xs at *;generalize (T.getD o IT.no).cls = yk at *;generalize (T.getD o IT.no).slot = ys at *
   by_cases hk : xk = yk
   ·have hkb : (xk == yk) = true := by simp [hk]
    by_cases hs : xs = ys
    ·have hsb : (xs == ys) = true := by simp [hs]
     clear hk hs
     go_wp2_with fail
     go_quiet (fail)
     go_wp2
     go_roundw
     case rel => exact ⟨m + 1, x + 1, by omega, by omega, by omega, by omega, by go_num, rfl, below_drewN hb _⟩
     case measure => simp [intOf]; omega
    ·have hsb : (xs == ys) = false := by simp [hs]
     clear hk hs
     go_wp2_with fail
     go_quiet (fail)
     go_wp2
     go_roundw
     case rel => exact ⟨m + 1, x, by omega, by omega, by omega, by omega, by go_num, rfl, below_drewN hb _⟩
     case measure => simp [intOf]; omega
   ·have hkb : (xk == yk) = false := by simp [hk]
    clear hk
    go_wp2_with fail
    go_quiet (fail)
    go_wp2
    go_roundw
    case rel => exact ⟨m + 1, x, by omega, by omega, by omega, by omega, by go_num, rfl, below_drewN hb _⟩
    case measure => simp [intOf]; omega
  ·obtain rfl : m = T.length := by omega
   go_wp2;go_ret;exact ⟨⟨_, rfl⟩, hb⟩
end
end Go.Proofs.YtjikemhmnkckcabGreat
