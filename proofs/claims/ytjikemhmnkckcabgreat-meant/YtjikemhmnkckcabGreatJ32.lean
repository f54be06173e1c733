import Derived.Test.YtjikemhmnkckcabGreatJ31
namespace Go.Proofs.YtjikemhmnkckcabGreat
open Go.RowKit
attribute [local go_sem ↓] Go.wp_at_zero Go.wp_at_succ
theorem iLastTo_lt (T : List IT) (k s : Int) (m : Nat) (hm : m ≤ T.length) (h0 : 0 < T.length) : iLastTo T k s m < T.length := by
 induction m with
 | zero => exact h0
 | succ m ih =>
   show (if m ≤ 1 then 0 else if _ then m else iLastTo T k s m) < _
   split
   ·exact h0
   ·split
    ·omega
    ·exact ih (by omega)
theorem iLast_lt (T : List IT) (k s : Int) (h0 : 0 < T.length) : iLast T k s < T.length := iLastTo_lt T k s T.length (Nat.le_refl _) h0
def SomeBool (e : Ending) : Prop := ∃ b : Bool, e = .returned (.bool b)
section
variable (F : IFix) (wB : World) (vT vF : Value) (V : List Value) (col : Nat → Nat) (S : IS) (w : World)
set_option maxRecDepth 100000 in
set_option maxHeartbeats 6400000 in
theorem isure_any (h : IRep F wB w vT vF V col S) (hg : IGood F S) (o : Nat) (ho : o < S.T.length) (hlen : S.T.length ≤ 1000000) (g : Int) (g0 : 0 ≤ g) (g1 : g ≤ 100000) :
 Calls Tryz.prog 133 #[.pointer (some ⟨F.mb, 0, none⟩), .int .i64 (o : Int), .int .i64 g] w fun e w' => SomeBool e ∧ Below w.heap.size w w' := by
 have HR := hide2 h;have HG := hide2 hg;have c0 := h.c0;have c1 := h.c1;have c2 := h.c2;have hl2 := hg.len;have hst0 := hg.conf.st0;have hst1 := hg.conf.st1;clear h hg
 rcases Cf.slot_bd F.st F.cls (16 * g) with hsl | ⟨k, s, hsl, hk, hs, hin⟩
 ·have HSL := hide2 hsl;clear hsl;go_enter Tryz.func133, Tryz.ntmps133
  go_wp2_with fail
  refine (kspot_any F.st F.rest F.ca F.ccap F.cls (16 * g) w HG.out.conf HR.out.crow (by omega) (by omega)).mono ?_;rw [HSL.out];rintro e1 w1 ⟨rfl, hb1⟩;have c0' := (HR.out.under hb1).c0;clear c0 c1 c2
  by_cases h1 : 16 ≤ 16 * g
  ·by_cases h2 : 16 * g < 16 * (1 + F.st)
   ·by_cases h3 : (o : Int) = 1
    ·have h3b : ((o : Int) != 1) = false := by simp [h3]
     clear h3;go_wp2;go_ret;exact ⟨⟨_, rfl⟩, hb1⟩
    ·have h3b : ((o : Int) != 1) = true := by simp [h3]
     clear h3;go_wp2;go_ret;exact ⟨⟨_, rfl⟩, hb1⟩
   ·go_wp2;go_ret;exact ⟨⟨_, rfl⟩, hb1⟩
  ·go_wp2;go_ret;exact ⟨⟨_, rfl⟩, hb1⟩
 ·have HSL := hide2 hsl;have hs1 := HG.out.conf.s1 k hk;have hbd := Cf.begin_bd HG.out.conf k hk s (by omega) (by omega);have hlt := iLast_lt S.T (k : Int) (s : Int) (by omega);clear hsl hin;go_enter Tryz.func133, Tryz.ntmps133
  go_wp2_with fail
  refine (kspot_any F.st F.rest F.ca F.ccap F.cls (16 * g) w HG.out.conf HR.out.crow (by omega) (by omega)).mono ?_;rw [HSL.out];rintro e1 w1 ⟨rfl, hb1⟩;have HR1 := hide2 (HR.out.under hb1);clear c0 c1 c2
  go_wp2_with fail
  refine (ilast_any F wB vT vF V col S w1 HR1.out (k : Int) (s : Int) (by omega) hlen).mono ?_;rintro e2 w2 ⟨rfl, hb2⟩;have HR2 := hide2 (HR1.out.under hb2);have c0 := HR2.out.c0;have c1 := HR2.out.c1;have c2 := HR2.out.c2
  go_wp2_with fail
  refine (kbegin_any F.st F.rest F.ca F.ccap F.cls (k : Int) (s : Int) w2 HG.out.conf HR2.out.crow (by omega) (by omega) (by omega) (by omega)).mono ?_;rintro e3 w3 ⟨rfl, hb3⟩;have HR3 := hide2 (HR2.out.under hb3);have HB3 : Hid (Below w.heap.size w w3) := (hb1.trans (hb2.mono hb1.size)).trans (hb3.mono (hb1.trans (hb2.mono hb1.size)).size);clear c0 c1 c2 hb1 hb2 hb3 HR HR1 HR2;rw [Int.toNat_natCast];generalize Cf.begin_ F.st F.cls k s = be at *;generalize iLast S.T (k : Int) (s : Int) = l at *;obtain ⟨gt, cap, e5, hcap, hmax, hgl, -, hcell⟩ := HR3.out.things (by omega);have c5 := HR3.out.c5;rw [e5] at c5;obtain ⟨-, -, d2, d3⟩ := hcell l hlt;obtain ⟨a, ha⟩ := HR3.out.vlen HG.out.z0 l hlt;rw [ha] at d3;have hsm := HG.out.sm l;have hltI : (l : Int) < (S.T.length : Int) := by omega
  unfold maxLen at hmax;obtain ⟨q0, q1, q2, q3⟩ := hcell o ho;obtain ⟨a', ha'⟩ := HR3.out.vlen HG.out.z0 o ho;rw [ha'] at q3;have hoI : (o : Int) < (S.T.length : Int) := by omega
  have hov := HG.out.cls_or o ho
  have hos : -1 ≤ (S.T.getD o IT.no).cls := by
   rcases hov with x | ⟨k', s', x, _⟩ <;> omega
  clear hcell ha ha' e5 hov;generalize (S.T.getD l IT.no).live = xl at *;generalize (S.T.getD l IT.no).cells.length = xn at *;generalize (S.T.getD o IT.no).live = ol at *;generalize (S.T.getD o IT.no).cells.length = on at *;generalize (S.T.getD o IT.no).cls = oc at *;generalize (S.T.getD o IT.no).slot = os at *
  by_cases l0 : l = 0
  ·have lb : ((l : Int) == 0) = true := by simp [l0]
   clear l0;go_wp2;go_ret;exact ⟨⟨_, rfl⟩, HB3.out⟩
  ·have lb : ((l : Int) == 0) = false := by simp; omega
   cases xl
   ·go_wp2;go_ret;exact ⟨⟨_, rfl⟩, HB3.out⟩
   ·by_cases hat : be + (xn : Int) ≤ 16 * g
    ·go_wp2;go_ret;exact ⟨⟨_, rfl⟩, HB3.out⟩
    ·by_cases ho1 : (o : Int) = 1
     ·have ob : ((o : Int) == 1) = true := by simp [ho1]
      clear ho1;go_wp2;go_ret;exact ⟨⟨_, rfl⟩, HB3.out⟩
     ·have ob : ((o : Int) == 1) = false := by simp [ho1]
      clear ho1;go_upto_region 11 with (fail);obtain ⟨wa, hwa⟩ : ∃ wa, wa = w3.alloc (.cells #[.int .i64 oc, .int .i64 os, .bool ol, .slice a' on on] 113) := ⟨_, rfl⟩
      have HBa : Hid (Below w3.heap.size w3 wa) := by show Below _ _ _; rw [hwa]; exact (Below.refl _ _).alloc (Nat.le_refl _) _
      have HX : Hid (Blk wa w3.heap.size 113 [.int .i64 oc, .int .i64 os, .bool ol, .slice a' on on]) := by show Blk _ _ _ _; rw [hwa]; exact Blk.alloc _ _ _
      have HRa := hide2 (HR3.out.under HBa.out);have HBB : Hid (Below w.heap.size w wa) := HB3.out.trans (HBa.out.mono HB3.out.size);rw [← hwa];clear hwa c5 d2 d3 q0 q1 q2 q3;have x0 := HX.out.cell (j := 0) rfl;have x1 := HX.out.cell (j := 1) rfl
      by_cases hlo : (l : Int) = (o : Int)
      ·have hb : ((l : Int) == (o : Int)) = true := by simp [hlo]
       clear hlo;go_wp2;go_ret;exact ⟨⟨_, rfl⟩, HBB.out⟩
      ·have hb : ((l : Int) == (o : Int)) = false := by simp [hlo]
       clear hlo
       by_cases hc : oc = (k : Int)
       ·have hcb : (oc != (k : Int)) = false := by simp [hc]
        clear hc
        by_cases e1 : os = (s : Int)
        ·have eb : (os == (s : Int)) = true := by simp [e1]
         clear e1
         go_wp2_with fail
         refine (iafter_any F wB vT vF V col S wa HRa.out o ho hlen).mono ?_;rintro e4 w4 ⟨⟨n, rfl⟩, hb4⟩;go_wp2;go_ret;exact ⟨⟨_, rfl⟩, HBB.out.trans (hb4.mono HBB.out.size)⟩
        ·have eb : (os == (s : Int)) = false := by simp [e1]
         clear e1
         by_cases e2 : os = (s : Int) + 1
         ·have fb : (os == (s : Int) + 1) = true := by simp [e2]
          clear e2
          go_wp2_with fail
          refine (iafter_any F wB vT vF V col S wa HRa.out o ho hlen).mono ?_;rintro e4 w4 ⟨⟨n, rfl⟩, hb4⟩;go_wp2;go_ret;exact ⟨⟨_, rfl⟩, HBB.out.trans (hb4.mono HBB.out.size)⟩
         ·have fb : (os == (s : Int) + 1) = false := by simp [e2]
          clear e2
          by_cases e3 : os = (s : Int) - 1
          ·have gb : (os == (s : Int) - 1) = true := by simp [e3]
           clear e3
           go_wp2_with fail
           refine (iafter_any F wB vT vF V col S wa HRa.out o ho hlen).mono ?_;rintro e4 w4 ⟨⟨n, rfl⟩, hb4⟩;go_wp2;go_ret;exact ⟨⟨_, rfl⟩, HBB.out.trans (hb4.mono HBB.out.size)⟩
          ·have gb : (os == (s : Int) - 1) = false := by simp [e3]
           clear e3;go_wp2;go_ret;exact ⟨⟨_, rfl⟩, HBB.out⟩
       ·have hcb : (oc != (k : Int)) = true := by simp [hc]
        clear hc;go_wp2;go_ret;exact ⟨⟨_, rfl⟩, HBB.out⟩
end
section
variable (F : IFix) (wB : World) (vT vF : Value) (V : List Value) (col : Nat → Nat) (S : IS) (w : World)
def iSaid (b : Bool) (r : Int) : Prop := (b = true ∧ r = 0) ∨ (b = false ∧ (r = 101 ∨ r = 102))
def SaidOk (e : Ending) (b : Bool) : Prop := ∃ r : Int, e = .returned (.int .i64 r) ∧ iSaid b r
set_option maxRecDepth 100000 in
set_option maxHeartbeats 6400000 in
theorem ireach_any (h : IRep F wB w vT vF V col S) (hg : IGood F S) (v : IV) (hv : v.of < S.T.length) (v0 : -9223372036854775808 ≤ v.n) (v1 : v.n ≤ 9223372036854775807) (hlen : S.T.length ≤ 1000000) (n : Int) (n0 : 1 ≤ n) (n1 : n ≤ 65536) :
 Calls Tryz.prog 105 #[.pointer (some ⟨F.mb, 0, none⟩), vV v, .int .i64 n] w fun e w' => SaidOk e (iFine S.T v n) ∧ Below w.heap.size w w' := by
 obtain ⟨o, m⟩ := v;have HV : Hid (vV ⟨o, m⟩ = .agg #[.int .i64 (o : Int), .int .i64 m]) := rfl;rw [HV.out];simp only at hv v0 v1;obtain ⟨wa, hwa⟩ : ∃ wa, wa = w.alloc (.cells #[.int .i64 (o : Int), .int .i64 m] 107) := ⟨_, rfl⟩
 have HB : Hid (Below w.heap.size w wa) := by show Below _ _ _; rw [hwa]; exact (Below.refl _ _).alloc (Nat.le_refl _) _
 have HX : Hid (Blk wa w.heap.size 107 [.int .i64 (o : Int), .int .i64 m]) := by show Blk _ _ _ _; rw [hwa]; exact Blk.alloc _ _ _
 have HR := hide2 (h.under HB.out);have HG := hide2 hg;have x0 := HX.out.cell (j := 0) rfl;have x1 := HX.out.cell (j := 1) rfl;have hxl := HX.out.lt;have hl2 := hg.len
 by_cases ho : o = 0
 ·have hob : ((o : Int) == 0) = true := by simp [ho]
  have HF : Hid (iFine S.T ⟨o, m⟩ n = false) := decide_eq_false (fun x => by have := x.1; simp only at this; omega);rw [HF.out];clear h hg ho
  by_cases hm : m < 16
  ·go_enter Tryz.func105, Tryz.ntmps105;go_upto_region 1 with (fail);rw [← hwa];clear hwa;go_wp2;go_ret;exact ⟨⟨101, rfl, .inr ⟨rfl, .inl rfl⟩⟩, HB.out⟩
  ·go_enter Tryz.func105, Tryz.ntmps105;go_upto_region 1 with (fail);rw [← hwa];clear hwa;go_wp2;go_ret;exact ⟨⟨102, rfl, .inr ⟨rfl, .inr rfl⟩⟩, HB.out⟩
 ·have hob : ((o : Int) == 0) = false := by simp; omega
  obtain ⟨gt, cap, e5, hcap, hmax, hgl, -, hcell⟩ := HR.out.things (by omega);have c5 := HR.out.c5;rw [e5] at c5;obtain ⟨d0, d1, d2, d3⟩ := hcell o hv;obtain ⟨a, ha⟩ := h.vlen hg.z0 o hv;rw [ha] at d3;have hsm := hg.sm o;have hoI : (o : Int) < (S.T.length : Int) := by omega
  unfold maxLen at hmax;have HFI : Hid (iFine S.T ⟨o, m⟩ n = decide (0 < o ∧ (S.T.getD o IT.no).live = true ∧ 0 ≤ m ∧ m ≤ ((S.T.getD o IT.no).cells.length : Int) - n)) := rfl;have ho1 : 0 < o := by omega
  clear h hg ho hcell ha e5;generalize iFine S.T ⟨o, m⟩ n = fi at *;generalize (S.T.getD o IT.no).live = lv at *;generalize (S.T.getD o IT.no).cells.length = len at *;generalize (S.T.getD o IT.no).cls = xk at *;generalize (S.T.getD o IT.no).slot = xs at *;go_enter Tryz.func105, Tryz.ntmps105;go_upto_region 1 with (fail);rw [← hwa];clear hwa;go_upto_region 5 with (fail)
  go_region_held3 (fun w' => w'.cell? ⟨F.mb, 5, none⟩ = some (.slice (some ⟨gt, 0, none⟩) S.T.length cap) ∧ w'.cell? ⟨w.heap.size, 0, none⟩ = some (.int .i64 (o : Int)) ∧ w'.cell? ⟨gt, o * 4, none⟩ = some (.int .i64 xk) ∧ w'.cell? ⟨gt, o * 4 + 1, none⟩ = some (.int .i64 xs) ∧ w'.cell? ⟨gt, o * 4 + 2, none⟩ = some (.bool lv) ∧ w'.cell? ⟨gt, o * 4 + 3, none⟩ = some (.slice a len len)) (go_keep) (first | fail)
  obtain ⟨wb, hwb⟩ : ∃ wb, wb = (wa.alloc (.cells #[.int .i64 xk, .int .i64 xs, .bool lv, .slice a len len] 113)).drew := ⟨_, rfl⟩
  rw [← hwb];have HBb : Hid (Below wa.heap.size wa wb) := by show Below _ _ _; rw [hwb]; exact ((Below.refl _ _).alloc (Nat.le_refl _) _).drew
  have HXb : Hid (Blk wb wa.heap.size 113 [.int .i64 xk, .int .i64 xs, .bool lv, .slice a len len]) := by show Blk _ _ _ _; rw [hwb]; exact Blk.alloc _ _ _
  have HRb := hide2 (HR.out.under HBb.out);have HBB : Hid (Below w.heap.size w wb) := HB.out.trans (HBb.out.mono HB.out.size);have x0' := (HBb.out.cell (p := ⟨w.heap.size, 0, none⟩) hxl).trans x0;have x1' := (HBb.out.cell (p := ⟨w.heap.size, 1, none⟩) hxl).trans x1;have y2 := HXb.out.cell (j := 2) rfl;have y3 := HXb.out.cell (j := 3) rfl;have hxb := Nat.lt_of_lt_of_le hxl HBb.out.size;clear x0 x1 hwb c5 d0 d1 d2 d3 HR HX HXb HBb HB
  rename_i hold
  clear hold
  by_cases hf : lv = true ∧ 0 ≤ m ∧ m ≤ (len : Int) - n
  ·obtain ⟨rfl, f1, f2⟩ := hf;have HF : Hid (fi = true) := by show _ = _; rw [HFI.out]; exact decide_eq_true ⟨ho1, rfl, f1, f2⟩
   go_wp2;go_ret;exact ⟨⟨0, rfl, .inl ⟨HF.out, rfl⟩⟩, HBB.out⟩
  ·have HF : Hid (fi = false) := by show _ = _; rw [HFI.out]; exact decide_eq_false (fun x => hf x.2)
   have key : lv = false ∨ (lv = true ∧ m < 0) ∨ (lv = true ∧ 0 ≤ m ∧ (len : Int) - n < m) := by
    cases lv
    ·exact .inl rfl
    ·by_cases h0 : m < 0
     ·exact .inr (.inl ⟨rfl, h0⟩)
     ·exact .inr (.inr ⟨rfl, by omega, by
       by_cases h1 : m ≤ (len : Int) - n
       ·exact absurd ⟨rfl, by omega, h1⟩ hf
       ·omega⟩)
   clear hf HFI
   rcases key with rfl | ⟨rfl, k1⟩ | ⟨rfl, k1, k2⟩
   all_goals
    go_wp2_with fail
    refine (iaddress_any F wB vT vF V col S wb HRb.out ⟨o, m⟩ HG.out hv).mono ?_;rintro e1 w1 ⟨⟨b, ok, rfl, b0, b1⟩, hb1⟩;have HB1 : Hid (Below w.heap.size w w1) := HBB.out.trans (hb1.mono HBB.out.size);have HR1 := hide2 (HRb.out.under hb1);have z0 := (hb1.cell (p := ⟨w.heap.size, 0, none⟩) hxb).trans x0';have hx1 := Nat.lt_of_lt_of_le hxb hb1.size;clear x0' x1' y2 y3 hb1
    cases ok
    ·go_wp2;go_ret;exact ⟨⟨102, rfl, .inr ⟨HF.out, .inr rfl⟩⟩, HB1.out⟩
    ·go_wp2_with fail
     refine (wild_any w1 b).mono ?_;rintro e2 w2 ⟨rfl, rfl⟩
     cases hw : iWild b
     ·have hwd := of_decide_eq_false hw;have b0' : 0 ≤ b := by omega
      have b1' : b ≤ 65535 := by omega
      clear hw hwd b0 b1;go_wp2
      go_loopw [10] (fun i wr => ∃ g : Int, 0 ≤ g ∧ g ≤ 100000 ∧ i = .int .i64 g ∧ Below w.heap.size w wr ∧ Hid (Below w1.heap.size w1 wr)) (fun i _ => (100000 - intOf i).toNat)
      case atStart => exact ⟨b / 16, by omega, by omega, rfl, HB1.out, Below.refl _ _⟩
      case round =>
       obtain ⟨g, g0, g1, rfl, hbr, hb1r⟩ := hrel;have z0' := (hb1r.out.cell (p := ⟨w.heap.size, 0, none⟩) hx1).trans z0
       by_cases hgl : g ≤ (b + n - 1) / 16
       ·have hg2 : g ≤ 90000 := by omega
        go_wp2_with fail
        refine (isure_any F wB vT vF V col S _ (HR1.out.under hb1r.out) HG.out o hv hlen g g0 g1).mono ?_;rintro e3 w3 ⟨⟨sb, rfl⟩, hb3⟩;have HB3 : Hid (Below w.heap.size w w3) := hbr.trans (hb3.mono hbr.size);have HB31 : Hid (Below w1.heap.size w1 w3) := hb1r.out.trans (hb3.mono hb1r.out.size)
        cases sb
        ·go_wp2
         go_roundw
         case rel => exact ⟨g + 1, by omega, by omega, rfl, HB3.out, HB31⟩
         case measure => simp [intOf]; omega
        ·go_wp2;go_ret;exact ⟨⟨101, rfl, .inr ⟨HF.out, .inl rfl⟩⟩, HB3.out⟩
       ·go_wp2;go_ret;exact ⟨⟨102, rfl, .inr ⟨HF.out, .inr rfl⟩⟩, hbr⟩
     ·go_wp2;go_ret;exact ⟨⟨101, rfl, .inr ⟨HF.out, .inl rfl⟩⟩, HB1.out⟩
end
section
variable (F : IFix) (wB : World) (vT vF : Value) (V : List Value) (col : Nat → Nat) (S : IS) (w : World)
set_option maxRecDepth 100000 in
set_option maxHeartbeats 6400000 in
theorem iheld_any (h : IRep F wB w vT vF V col S) (hg : IGood F S) (v : IV) (hv : v.of < S.T.length) (v0 : -9223372036854775808 ≤ v.n) (v1 : v.n ≤ 9223372036854775807) (hlen : S.T.length ≤ 1000000) :
 Calls Tryz.prog 100 #[.pointer (some ⟨F.mb, 0, none⟩), vV v] w fun e w' => SaidOk e (iOwns S.T v) ∧ Below w.heap.size w w' := by
 obtain ⟨o, m⟩ := v;have HV : Hid (vV ⟨o, m⟩ = .agg #[.int .i64 (o : Int), .int .i64 m]) := rfl;rw [HV.out];simp only at hv v0 v1;obtain ⟨wa, hwa⟩ : ∃ wa, wa = w.alloc (.cells #[.int .i64 (o : Int), .int .i64 m] 107) := ⟨_, rfl⟩
 have HB : Hid (Below w.heap.size w wa) := by show Below _ _ _; rw [hwa]; exact (Below.refl _ _).alloc (Nat.le_refl _) _
 have HX : Hid (Blk wa w.heap.size 107 [.int .i64 (o : Int), .int .i64 m]) := by show Blk _ _ _ _; rw [hwa]; exact Blk.alloc _ _ _
 have HR := hide2 (h.under HB.out);have HG := hide2 hg;have x0 := HX.out.cell (j := 0) rfl;have x1 := HX.out.cell (j := 1) rfl;have hxl := HX.out.lt;have hl2 := hg.len
 by_cases ho : o = 0
 ·have hob : ((o : Int) == 0) = true := by simp [ho]
  have HF : Hid (iOwns S.T ⟨o, m⟩ = false) := decide_eq_false (fun x => by have := x.1; simp only at this; omega);clear h hg ho
  by_cases hm : m < 16
  ·go_enter Tryz.func100, Tryz.ntmps100;go_upto_region 1 with (fail);rw [← hwa];clear hwa;go_wp2;go_ret;exact ⟨⟨101, rfl, .inr ⟨HF.out, .inl rfl⟩⟩, HB.out⟩
  ·go_enter Tryz.func100, Tryz.ntmps100;go_upto_region 1 with (fail);rw [← hwa];clear hwa;go_wp2;go_ret;exact ⟨⟨102, rfl, .inr ⟨HF.out, .inr rfl⟩⟩, HB.out⟩
 ·have hob : ((o : Int) == 0) = false := by simp; omega
  obtain ⟨gt, cap, e5, hcap, hmax, hgl, -, hcell⟩ := HR.out.things (by omega);have c5 := HR.out.c5;rw [e5] at c5;obtain ⟨-, -, d2, -⟩ := hcell o hv;have hoI : (o : Int) < (S.T.length : Int) := by omega
  unfold maxLen at hmax;have HFI : Hid (iOwns S.T ⟨o, m⟩ = decide (1 < o ∧ (S.T.getD o IT.no).live = true ∧ m = 0)) := rfl;clear h hg ho hcell e5;generalize iOwns S.T ⟨o, m⟩ = fi at *;generalize (S.T.getD o IT.no).live = lv at *
  by_cases hf : 1 < o ∧ lv = true ∧ m = 0
  ·obtain ⟨f0, rfl, rfl⟩ := hf;have HF : Hid (fi = true) := by show _ = _; rw [HFI.out]; exact decide_eq_true ⟨f0, rfl, rfl⟩
   have f0I : (1 : Int) < (o : Int) := by omega
   go_enter Tryz.func100, Tryz.ntmps100;go_upto_region 1 with (fail);rw [← hwa];clear hwa;go_upto_region 5 with (fail)
   go_quiet (fail)
   go_wp2;go_ret;exact ⟨⟨0, rfl, .inl ⟨HF.out, rfl⟩⟩, below_drewN HB.out _⟩
  ·have HF : Hid (fi = false) := by show _ = _; rw [HFI.out]; exact decide_eq_false hf
   have key : decide ((1 : Int) < (o : Int)) = false ∨ ((1 : Int) < (o : Int) ∧ lv = false) ∨ ((1 : Int) < (o : Int) ∧ lv = true ∧ (m == 0) = false) := by
    by_cases h0 : 1 < o
    ·cases lv
     ·exact .inr (.inl ⟨by omega, rfl⟩)
     ·refine .inr (.inr ⟨by omega, rfl, ?_⟩)
      by_cases h1 : m = 0
      ·exact absurd ⟨h0, rfl, h1⟩ hf
      ·simp [h1]
    ·exact .inl (by simp; omega)
   clear hf HFI;go_enter Tryz.func100, Tryz.ntmps100;go_upto_region 1 with (fail);rw [← hwa];clear hwa;go_upto_region 5 with (fail)
   rcases key with k1 | ⟨k1, rfl⟩ | ⟨k1, rfl, k2⟩
   all_goals
    go_quiet (fail)
    obtain ⟨wb, hwb⟩ : ∃ wb, wb = wa.drewN nq := ⟨_, rfl⟩
    rw [← hwb];have HBb : Hid (Below wa.heap.size wa wb) := by show Below _ _ _; rw [hwb]; exact below_drewN (Below.refl _ _) _
    have HRb := hide2 (HR.out.under HBb.out);have HBB : Hid (Below w.heap.size w wb) := HB.out.trans (HBb.out.mono HB.out.size);have x0' := (HBb.out.cell (p := ⟨w.heap.size, 0, none⟩) hxl).trans x0;have x1' := (HBb.out.cell (p := ⟨w.heap.size, 1, none⟩) hxl).trans x1;have hxb := Nat.lt_of_lt_of_le hxl HBb.out.size;clear x0 x1 hwb c5 d2 HR HX HBb HB
    go_wp2_with fail
    refine (iaddress_any F wB vT vF V col S wb HRb.out ⟨o, m⟩ HG.out hv).mono ?_;rintro e1 w1 ⟨⟨b, ok, rfl, b0, b1⟩, hb1⟩;have HB1 : Hid (Below w.heap.size w w1) := HBB.out.trans (hb1.mono HBB.out.size);have HR1 := hide2 (HRb.out.under hb1);have z0 := (hb1.cell (p := ⟨w.heap.size, 0, none⟩) hxb).trans x0';have hx1 := Nat.lt_of_lt_of_le hxb hb1.size;clear x0' x1' hb1
    cases ok
    ·go_wp2;go_ret;exact ⟨⟨102, rfl, .inr ⟨HF.out, .inr rfl⟩⟩, HB1.out⟩
    ·go_wp2_with fail
     refine (wild_any w1 b).mono ?_;rintro e2 w2 ⟨rfl, rfl⟩
     cases hw : iWild b
     ·have hwd := of_decide_eq_false hw;have b0' : 0 ≤ b := by omega
      have b1' : b ≤ 65535 := by omega
      clear hw hwd b0 b1;have c0 := HR1.out.c0;have c1 := HR1.out.c1;have c2 := HR1.out.c2;have hbs := Cf.slot_bd F.st F.cls b
      go_wp2_with fail
      refine (kspot_any F.st F.rest F.ca F.ccap F.cls b w1 HG.out.conf HR1.out.crow (by omega) (by omega)).mono ?_;rintro e3 w3 ⟨rfl, hb3⟩;have HB3 : Hid (Below w.heap.size w w3) := HB1.out.trans (hb3.mono HB1.out.size);have HR3 := hide2 (HR1.out.under hb3);have z3 := (hb3.cell (p := ⟨w.heap.size, 0, none⟩) hx1).trans z0;have hx3 := Nat.lt_of_lt_of_le hx1 hb3.size;clear c0 c1 c2 hb3 z0
      rcases hbs with hsl | ⟨k, s, hsl, hk, hs, hin⟩
      ·rw [hsl];clear hsl;go_wp2;go_ret;exact ⟨⟨101, rfl, .inr ⟨HF.out, .inl rfl⟩⟩, HB3.out⟩
      ·rw [hsl];have hs1 := HG.out.conf.s1 k hk;have hlt := iLast_lt S.T (k : Int) (s : Int) (by omega);clear hsl hin;have c0 := HR3.out.c0;have c1 := HR3.out.c1;have c2 := HR3.out.c2
       go_wp2_with fail
       refine (kbegin_any F.st F.rest F.ca F.ccap F.cls (k : Int) (s : Int) w3 HG.out.conf HR3.out.crow (by omega) (by omega) (by omega) (by omega)).mono ?_;rintro e4 w4 ⟨rfl, hb4⟩;have HB4 : Hid (Below w.heap.size w w4) := HB3.out.trans (hb4.mono HB3.out.size);have HR4 := hide2 (HR3.out.under hb4);have z4 := (hb4.cell (p := ⟨w.heap.size, 0, none⟩) hx3).trans z3;have hx4 := Nat.lt_of_lt_of_le hx3 hb4.size;clear c0 c1 c2 hb4 z3;rw [Int.toNat_natCast];generalize Cf.begin_ F.st F.cls k s = be at *
       by_cases hbe : be = b
       ·have hbb : (be != b) = false := by simp [hbe]
        clear hbe
        go_wp2_with fail
        refine (ilast_any F wB vT vF V col S w4 HR4.out (k : Int) (s : Int) (by omega) hlen).mono ?_;rintro e5 w5 ⟨rfl, hb5⟩;have HB5 : Hid (Below w.heap.size w w5) := HB4.out.trans (hb5.mono HB4.out.size);have HR5 := hide2 (HR4.out.under hb5);have z5 := (hb5.cell (p := ⟨w.heap.size, 0, none⟩) hx4).trans z4;have hx5 := Nat.lt_of_lt_of_le hx4 hb5.size;clear hb5 z4;generalize iLast S.T (k : Int) (s : Int) = l at *;obtain ⟨gt5, cap5, e55, hcap5, hmax5, hgl5, -, hcell5⟩ := HR5.out.things (by omega);have c5 := HR5.out.c5;rw [e55] at c5;obtain ⟨-, -, d2, -⟩ := hcell5 l hlt;have hltI : (l : Int) < (S.T.length : Int) := by omega
        unfold maxLen at hmax5;clear hcell5 e55;generalize (S.T.getD l IT.no).live = xl at *
        by_cases l0 : l = 0
        ·have lb : ((l : Int) == 0) = true := by simp [l0]
         clear l0;go_wp2;go_ret;exact ⟨⟨101, rfl, .inr ⟨HF.out, .inl rfl⟩⟩, HB5.out⟩
        ·have lb : ((l : Int) == 0) = false := by simp; omega
         cases xl
         ·go_wp2;go_ret;exact ⟨⟨101, rfl, .inr ⟨HF.out, .inl rfl⟩⟩, HB5.out⟩
         ·go_wp2_with fail
          refine (isure_any F wB vT vF V col S w5 HR5.out HG.out o hv hlen (b / 16) (by omega) (by omega)).mono ?_;rintro e6 w6 ⟨⟨sb, rfl⟩, hb6⟩;have HB6 : Hid (Below w.heap.size w w6) := HB5.out.trans (hb6.mono HB5.out.size);clear hb6
          cases sb
          ·go_wp2;go_ret;exact ⟨⟨102, rfl, .inr ⟨HF.out, .inr rfl⟩⟩, HB6.out⟩
          ·go_wp2;go_ret;exact ⟨⟨101, rfl, .inr ⟨HF.out, .inl rfl⟩⟩, HB6.out⟩
       ·have hbb : (be != b) = true := by simp [hbe]
        clear hbe;go_wp2;go_ret;exact ⟨⟨101, rfl, .inr ⟨HF.out, .inl rfl⟩⟩, HB4.out⟩
     ·go_wp2;go_ret;exact ⟨⟨101, rfl, .inr ⟨HF.out, .inl rfl⟩⟩, HB1.out⟩
end
end Go.Proofs.YtjikemhmnkckcabGreat
namespace Go.Proofs.YtjikemhmnkckcabGreat
open Go.RowKit
def IOwn (mb : Nat) (vT vF : Value) (V : List Value) (b : Nat) : Prop := b = mb ∨ vT.ownBlock = some b ∨ vF.ownBlock = some b ∨ ∃ i, (V.getD i vNo).ownBlock = some b
section
variable {F : IFix} {wB w w' : World} {vT vF : Value} {V : List Value} {col : Nat → Nat} {S : IS}
theorem IRep.own_lt (h : IRep F wB w vT vF V col S) {b : Nat} (hb : IOwn F.mb vT vF V b) : b < w.heap.size := by
 rcases hb with rfl | hb | hb | ⟨i, hb⟩
 ·exact h.blk.lt
 ·exact row_lt h.T hb
 ·exact row_lt h.Fr hb
 ·by_cases e : i = 0
  ·subst e; rw [h.v0] at hb; exact absurd hb (by simp [vNo, Value.ownBlock])
  ·by_cases hi : i < S.T.length
   ·exact ((h.vn i (by omega) hi).lt hb).1
   ·rw [List.getD_eq_getElem?_getD, List.getElem?_eq_none (by rw [h.vl]; omega)] at hb;exact absurd hb (by simp [vNo, Value.ownBlock])
theorem IRep.own_ge (h : IRep F wB w vT vF V col S) {b : Nat} (hb : IOwn F.mb vT vF V b) : wB.heap.size ≤ b := by
 rcases hb with rfl | hb | hb | ⟨i, hb⟩
 ·exact h.hm
 ·exact (h.sep.vT b hb).2
 ·exact (h.sep.vF b hb).2
 ·by_cases e : i = 0
  ·subst e; rw [h.v0] at hb; exact absurd hb (by simp [vNo, Value.ownBlock])
  ·by_cases hi : i < S.T.length
   ·exact ((h.vn i (by omega) hi).lt hb).2.2
   ·rw [List.getD_eq_getElem?_getD, List.getElem?_eq_none (by rw [h.vl]; omega)] at hb;exact absurd hb (by simp [vNo, Value.ownBlock])
theorem Kept.setNew {X : Nat → Prop} {w1 : World} (h : Kept w w1 X) (p : Addr) (v : Value) (hp : w.heap.size ≤ p.block) : Kept w (w1.setCell p v) X :=
 ⟨h.os, h.tape, h.output, by rw [World.size_setCell]; exact h.size, fun k hk hn => by rw [Below.heap_setCell w1 _ _ k (by omega)]; exact h.block k hk hn⟩
theorem IRep.aside {X : Nat → Prop} (h : IRep F wB w vT vF V col S) (hk : Kept w w' X) (hX : ∀ b, X b → ¬ IOwn F.mb vT vF V b ∧ wB.heap.size ≤ b) : IRep F wB w' vT vF V col S :=
 ⟨(hk.block F.mb h.blk.lt (fun e => (hX _ e).1 (.inl rfl))).trans h.blk, row_kept h.T fun g hg => hk.block g (row_lt h.T hg) (fun e => (hX _ e).1 (.inr (.inl hg))), row_kept h.Fr fun g hg => hk.block g (row_lt h.Fr hg) (fun e => (hX _ e).1 (.inr (.inr (.inl hg)))), h.vl, h.v0,
   fun i h1 hi => (h.vn i h1 hi).kept fun b hb => hk.block b ((h.vn i h1 hi).lt hb).1 (fun e => (hX _ e).1 (.inr (.inr (.inr ⟨i, hb⟩)))), kept_below h.below hk (fun b hb => (hX b hb).2), h.hm, h.sep, h.codeR, h.clsR, h.r8, h.dl, h.hl⟩
theorem IRep.push (h : IRep F wB w vT vF V col S) (y : IT) (xb : Nat) {w7 : World} {gg cap : Nat} (hlen : 0 < S.T.length)
 (hown : w7.ownsRow 0 113 4 (.slice (some ⟨gg, 0, none⟩) (S.T.length + 1) cap) (S.T.length + 1) ((S.T.zip V).flatMap itCells ++ itCells (y, .slice (some ⟨xb, 0, none⟩) y.cells.length y.cells.length)))
 (hk : Kept w w7 (fun b => vT.ownBlock = some b)) (hx : Blk w7 xb 115 (y.cells.flatMap icCells)) (hxn : w.heap.size ≤ xb) (hat : vT.ownBlock = some gg ∨ xb < gg) :
 ∃ col', IRep F wB (w7.setCell ⟨F.mb, 5, none⟩ (.slice (some ⟨gg, 0, none⟩) (S.T.length + 1) cap)) (.slice (some ⟨gg, 0, none⟩) (S.T.length + 1) cap) vF (V ++ [.slice (some ⟨xb, 0, none⟩) y.cells.length y.cells.length]) col' (S.heap (S.T ++ [y]) S.F) ∧
 Kept w (w7.setCell ⟨F.mb, 5, none⟩ (.slice (some ⟨gg, 0, none⟩) (S.T.length + 1) cap)) (IOwn F.mb vT vF V) := by
 have hmb := h.blk.lt;have hws := h.below.size;have hmT : vT.ownBlock ≠ some F.mb := fun e => by have := h.colT e; rw [h.sep.mb] at this; omega
 have hgm : gg ≠ F.mb := by
  rcases hat with e | e
  ·intro e2; subst e2; exact hmT e
  ·omega
 have hgx : gg ≠ xb := by
  rcases hat with e | e
  ·have := row_lt h.T e; omega
  ·omega
 have hblk : ∀ b, b < w.heap.size → vT.ownBlock ≠ some b → b ≠ F.mb → (w7.setCell ⟨F.mb, 5, none⟩ (.slice (some ⟨gg, 0, none⟩) (S.T.length + 1) cap)).heap[b]? = w.heap[b]? := fun b h1 h2 h3 => by
  rw [Below.heap_setCell w7 _ _ b h3]; exact hk.block b h1 h2
 have hcT : ∀ b, col b ≠ 1 → vT.ownBlock ≠ some b := fun b hb e => hb (h.colT e)
 have hcm : ∀ b, col b ≠ 0 → b ≠ F.mb := fun b hb e => hb (by rw [e]; exact h.sep.mb)
 have hgg : ∀ b, b < w.heap.size → b = gg → col b = 1 := fun b hb e => by
  rcases hat with x | x
  ·rw [e]; exact h.colT x
  ·omega
 have hKept : Kept w (w7.setCell ⟨F.mb, 5, none⟩ (.slice (some ⟨gg, 0, none⟩) (S.T.length + 1) cap)) (IOwn F.mb vT vF V) :=
  ⟨hk.os, hk.tape, hk.output, by rw [World.size_setCell]; exact hk.size, fun b hb hn => hblk b hb (fun e => hn (.inr (.inl e))) (fun e => hn (.inl e))⟩
 have hll : (S.T ++ [y]).length = S.T.length + 1 := by simp
 refine ⟨fun b => if b = xb then 3 + S.T.length else if b = gg then 1 else col b, ⟨?_, ?_, ?_, ?_, ?_, ?_, ?_, h.hm, ⟨?_, ?_, ?_⟩, h.codeR, h.clsR, h.r8, h.dl, h.hl⟩, hKept⟩
 ·obtain ⟨r0, r1, r2, r3, r4, r5, r6, r7, hr, hb⟩ := h.blk8;have e : Blk w7 F.mb 110 (iCells F vT vF [r0, r1, r2, r3, r4, r5, r6, r7] (iInp F.inp S.heard) ((F.nd : Int) - S.drawn) S.next S.en S.ex S.steps S.pc S.drawn S.out) := (hk.block F.mb hmb hmT).trans hb;unfold iC IS.heap;rw [hr];exact e.setCell 5 _
 ·show World.ownsRow _ 0 _ 4 _ (S.T ++ [y]).length (((S.T ++ [y]).zip (V ++ [_])).flatMap itCells);rw [hll, List.zip_append h.vl.symm, List.flatMap_append];refine row_kept ?_ (fun g hg => Below.heap_setCell w7 _ _ g (by simp [Value.ownBlock] at hg; show g ≠ F.mb; omega))
  simpa using hown
 ·exact row_kept h.Fr fun g hg => hblk g (row_lt h.Fr hg) (hcT g (by rw [h.colF hg]; decide)) (hcm g (by rw [h.colF hg]; decide))
 ·show (V ++ [_]).length = (S.T ++ [y]).length;rw [List.length_append, List.length_append, h.vl]; rfl
 ·have := h.vl;rw [List.getD_eq_getElem?_getD, List.getElem?_append_left (by omega), ← List.getD_eq_getElem?_getD]; exact h.v0
 ·intro i h1 hi;change i < (S.T ++ [y]).length at hi;show TRow _ _ _ i _ ((S.T ++ [y]).getD i IT.no).cells;rw [getD_appT]
  by_cases e : i = S.T.length
  ·rw [if_pos e]
   have hV : (V ++ [Value.slice (some ⟨xb, 0, none⟩) y.cells.length y.cells.length]).getD i vNo = .slice (some ⟨xb, 0, none⟩) y.cells.length y.cells.length := by
    rw [e, ← h.vl]; simp
   rw [hV];refine ⟨xb, rfl, ?_, by omega, ?_⟩
   ·exact (Below.heap_setCell w7 _ _ xb (by show xb ≠ F.mb; omega)).trans hx
   ·show (if xb = xb then 3 + S.T.length else _) = 3 + i;rw [if_pos rfl, e]
  ·rw [if_neg e];have hi' : i < S.T.length := by omega
   have hV : (V ++ [Value.slice (some ⟨xb, 0, none⟩) y.cells.length y.cells.length]).getD i vNo = V.getD i vNo := by
    have := h.vl;rw [List.getD_eq_getElem?_getD, List.getElem?_append_left (by omega), ← List.getD_eq_getElem?_getD]
   rw [hV];obtain ⟨cb, e1, e2, e3, e4⟩ := (h.vn i h1 hi').ex;have hcb := e2.lt;refine ⟨cb, e1, (hblk cb hcb (hcT cb (by omega)) (hcm cb (by omega))).trans e2, e3, ?_⟩;show (if cb = xb then 3 + S.T.length else if cb = gg then 1 else col cb) = 3 + i;rw [if_neg (by omega), if_neg (fun x => by have := hgg cb hcb x; omega)]; exact e4
 ·exact kept_below h.below hKept (fun b hb => h.own_ge hb)
 ·show (if F.mb = xb then 3 + S.T.length else if F.mb = gg then 1 else col F.mb) = 0;rw [if_neg (by omega), if_neg (by omega)]; exact h.sep.mb
 ·intro b hb;simp [Value.ownBlock] at hb;subst hb;refine ⟨?_, ?_⟩
  ·show (if gg = xb then 3 + S.T.length else if gg = gg then 1 else col gg) = 1;rw [if_neg hgx, if_pos rfl]
  ·rcases hat with x | x
   ·exact (h.sep.vT gg x).2
   ·omega
 ·intro b hb;have hbl := row_lt h.Fr hb;refine ⟨?_, (h.sep.vF b hb).2⟩;show (if b = xb then 3 + S.T.length else if b = gg then 1 else col b) = 2;rw [if_neg (by omega), if_neg (fun x => by have h1 := hgg b hbl x; have h2 := h.colF hb; omega)]; exact h.colF hb
theorem IRep.offT {g n cap : Nat} (h : IRep F wB w (.slice (some ⟨g, 0, none⟩) n cap) vF V col S) (hn : n = S.T.length) (of : Nat) (ho : of < S.T.length) :
 IRep F wB (w.setCell ⟨g, of * 4 + 2, none⟩ (.bool false)) (.slice (some ⟨g, 0, none⟩) n cap) vF V col (S.heap (S.T.set of (S.T.getD of IT.no).off) S.F) := by
 subst hn;have hg1 : col g = 1 := h.colT rfl;have hcp : ∀ b, col b ≠ 1 → (w.setCell ⟨g, of * 4 + 2, none⟩ (.bool false)).heap[b]? = w.heap[b]? := fun b hb => Below.heap_setCell w _ _ b (fun e => hb (by rw [show b = g from e]; exact hg1))
 have hl : (S.T.set of (S.T.getD of IT.no).off).length = S.T.length := List.length_set
 have hz : (S.T.set of (S.T.getD of IT.no).off).zip V = (S.T.zip V).set of ((S.T.getD of IT.no).off, V.getD of vNo) := by
  apply List.ext_getElem?;intro i;rw [List.getElem?_set]
  by_cases e : of = i
  ·subst e;rw [if_pos rfl, if_pos (by rw [List.length_zip, h.vl]; omega)];rw [zip_getD _ V (by rw [hl]; exact h.vl) of (by rw [hl]; exact ho), getD_setT _ _ _ _ ho, if_pos rfl]
  ·rw [if_neg e]
   by_cases hi : i < S.T.length
   ·rw [zip_getD _ V (by rw [hl]; exact h.vl) i (by rw [hl]; exact hi), getD_setT _ _ _ _ ho, if_neg (fun x => e x.symm), zip_getD _ V h.vl i hi]
   ·rw [List.getElem?_eq_none (by rw [List.length_zip, hl]; omega), List.getElem?_eq_none (by rw [List.length_zip]; omega)]
 refine ⟨(hcp F.mb (by rw [h.sep.mb]; decide)).trans h.blk, ?_, row_kept h.Fr fun b hb => hcp b (by rw [h.colF hb]; decide), ?_, h.v0, fun i i1 hi => ?_, ?_, h.hm, h.sep, h.codeR, h.clsR, h.r8, h.dl, h.hl⟩
 ·show World.ownsRow _ 0 _ 4 _ (S.T.set of _).length (((S.T.set of (S.T.getD of IT.no).off).zip V).flatMap itCells);have hzl : (S.T.zip V).length = S.T.length := by rw [List.length_zip, h.vl]; omega
  have hgd : (S.T.zip V).getD of (IT.no, vNo) = (S.T.getD of IT.no, V.getD of vNo) := by rw [List.getD_eq_getElem?_getD, zip_getD _ V h.vl of ho]; rfl
  rw [hl, hz, ← flat_set itCells 4 (fun _ => rfl) (S.T.zip V) (IT.no, vNo) of 2 (by omega) (by omega) ((S.T.getD of IT.no).off, V.getD of vNo) (.bool false) (by rw [hgd]; rfl)];exact row_set h.T _ _
 ·show V.length = (S.T.set of _).length;rw [hl]; exact h.vl
 ·change i < (S.T.set of _).length at hi;rw [hl] at hi;show TRow _ _ _ i _ ((S.T.set of (S.T.getD of IT.no).off).getD i IT.no).cells
  have hc : ((S.T.set of (S.T.getD of IT.no).off).getD i IT.no).cells = (S.T.getD i IT.no).cells := by
   rw [getD_setT _ _ _ _ ho]
   by_cases e : i = of
   ·rw [if_pos e, e]; rfl
   ·rw [if_neg e]
  rw [hc];exact (h.vn i i1 hi).kept fun b hb => hcp b (by rw [h.colV i1 hi hb]; omega)
 ·refine kept_below h.below (X := (· = g)) ⟨rfl, rfl, rfl, by rw [World.size_setCell]; exact Nat.le_refl _, fun b _ hb => Below.heap_setCell w _ _ b hb⟩ (fun b hb => by rw [hb]; exact (h.sep.vT g rfl).2)
theorem IRep.pushF (h : IRep F wB w vT vF V col S) (x : Int × Int) {w7 : World} {gg cap : Nat}
 (hown : w7.ownsRow 0 175 2 (.slice (some ⟨gg, 0, none⟩) (S.F.length + 1) cap) (S.F.length + 1) (S.F.flatMap spotCells ++ spotCells x))
 (hk : Kept w w7 (fun b => vF.ownBlock = some b)) (hat : vF.ownBlock = some gg ∨ w.heap.size ≤ gg) :
 ∃ col', IRep F wB (w7.setCell ⟨F.mb, 6, none⟩ (.slice (some ⟨gg, 0, none⟩) (S.F.length + 1) cap)) vT (.slice (some ⟨gg, 0, none⟩) (S.F.length + 1) cap) V col' (S.heap S.T (S.F ++ [x])) ∧
 Kept w (w7.setCell ⟨F.mb, 6, none⟩ (.slice (some ⟨gg, 0, none⟩) (S.F.length + 1) cap)) (IOwn F.mb vT vF V) := by
 have hmb := h.blk.lt;have hws := h.below.size;have hmF : vF.ownBlock ≠ some F.mb := fun e => by have := h.colF e; rw [h.sep.mb] at this; omega
 have hgm : gg ≠ F.mb := by
  rcases hat with e | e
  ·intro e2; subst e2; exact hmF e
  ·omega
 have hblk : ∀ b, b < w.heap.size → vF.ownBlock ≠ some b → b ≠ F.mb → (w7.setCell ⟨F.mb, 6, none⟩ (.slice (some ⟨gg, 0, none⟩) (S.F.length + 1) cap)).heap[b]? = w.heap[b]? := fun b h1 h2 h3 => by
  rw [Below.heap_setCell w7 _ _ b h3]; exact hk.block b h1 h2
 have hcF : ∀ b, col b ≠ 2 → vF.ownBlock ≠ some b := fun b hb e => hb (h.colF e)
 have hcm : ∀ b, col b ≠ 0 → b ≠ F.mb := fun b hb e => hb (by rw [e]; exact h.sep.mb)
 have hgg : ∀ b, b < w.heap.size → b = gg → col b = 2 := fun b hb e => by
  rcases hat with x | x
  ·rw [e]; exact h.colF x
  ·omega
 have hKept : Kept w (w7.setCell ⟨F.mb, 6, none⟩ (.slice (some ⟨gg, 0, none⟩) (S.F.length + 1) cap)) (IOwn F.mb vT vF V) :=
  ⟨hk.os, hk.tape, hk.output, by rw [World.size_setCell]; exact hk.size, fun b hb hn => hblk b hb (fun e => hn (.inr (.inr (.inl e)))) (fun e => hn (.inl e))⟩
 refine ⟨fun b => if b = gg then 2 else col b, ⟨?_, ?_, ?_, h.vl, h.v0, ?_, ?_, h.hm, ⟨?_, ?_, ?_⟩, h.codeR, h.clsR, h.r8, h.dl, h.hl⟩, hKept⟩
 ·obtain ⟨r0, r1, r2, r3, r4, r5, r6, r7, hr, hb⟩ := h.blk8;have e : Blk w7 F.mb 110 (iCells F vT vF [r0, r1, r2, r3, r4, r5, r6, r7] (iInp F.inp S.heard) ((F.nd : Int) - S.drawn) S.next S.en S.ex S.steps S.pc S.drawn S.out) := (hk.block F.mb hmb hmF).trans hb;unfold iC IS.heap;rw [hr];exact e.setCell 6 _
 ·exact row_kept h.T fun g hg => hblk g (row_lt h.T hg) (hcF g (by rw [h.colT hg]; decide)) (hcm g (by rw [h.colT hg]; decide))
 ·show World.ownsRow _ 0 _ 2 _ (S.F ++ [x]).length ((S.F ++ [x]).flatMap spotCells);rw [show (S.F ++ [x]).length = S.F.length + 1 by simp, List.flatMap_append];refine row_kept ?_ (fun g hg => Below.heap_setCell w7 _ _ g (by simp [Value.ownBlock] at hg; show g ≠ F.mb; omega))
  simpa using hown
 ·intro i h1 hi;obtain ⟨cb, e1, e2, e3, e4⟩ := (h.vn i h1 hi).ex;have hcb := e2.lt;refine ⟨cb, e1, (hblk cb hcb (hcF cb (by omega)) (hcm cb (by omega))).trans e2, e3, ?_⟩;show (if cb = gg then 2 else col cb) = 3 + i;rw [if_neg (fun x => by have := hgg cb hcb x; omega)]; exact e4
 ·exact kept_below h.below hKept (fun b hb => h.own_ge hb)
 ·show (if F.mb = gg then 2 else col F.mb) = 0;rw [if_neg (by omega)]; exact h.sep.mb
 ·intro b hb;have hbl := row_lt h.T hb;refine ⟨?_, (h.sep.vT b hb).2⟩;show (if b = gg then 2 else col b) = 1;rw [if_neg (fun x => by have h1 := hgg b hbl x; have h2 := h.colT hb; omega)]; exact h.colT hb
 ·intro b hb;simp [Value.ownBlock] at hb;subst hb;refine ⟨by show (if gg = gg then 2 else col gg) = 2; rw [if_pos rfl], ?_⟩
  rcases hat with x | x
  ·exact (h.sep.vF gg x).2
  ·omega
theorem IRep.turnC (h : IRep F wB w vT vF V col S) (of : Nat) (h1 : 1 ≤ of) (ho : of < S.T.length) (c : List IC) (hc : c.length = (S.T.getD of IT.no).cells.length) (cb : Nat) (hv : V.getD of vNo = .slice (some ⟨cb, 0, none⟩) (S.T.getD of IT.no).cells.length (S.T.getD of IT.no).cells.length)
 (hk : Kept w w' (· = cb)) (hb : Blk w' cb 115 (c.flatMap icCells)) : IRep F wB w' vT vF V col (S.turn of c) ∧ Kept w w' (IOwn F.mb vT vF V) := by
 have hcc : col cb = 3 + of := h.colV h1 ho (by rw [hv]; rfl);have hcp : ∀ b, b < w.heap.size → col b ≠ 3 + of → w'.heap[b]? = w.heap[b]? := fun b hbl hx => hk.block b hbl (fun e => hx (by rw [e]; exact hcc))
 have hl : (S.T.set of ((S.T.getD of IT.no).withCells c)).length = S.T.length := List.length_set;have hcge : wB.heap.size ≤ cb := ((h.vn of h1 ho).lt (by rw [hv]; rfl)).2.2
 have hz : ((S.T.set of ((S.T.getD of IT.no).withCells c)).zip V).flatMap itCells = (S.T.zip V).flatMap itCells := by
  have e : (S.T.set of ((S.T.getD of IT.no).withCells c)).zip V = (S.T.zip V).set of ((S.T.getD of IT.no).withCells c, V.getD of vNo) := by
   apply List.ext_getElem?;intro i;rw [List.getElem?_set]
   by_cases e : of = i
   ·subst e;rw [if_pos rfl, if_pos (by rw [List.length_zip, h.vl]; omega)];rw [zip_getD _ V (by rw [hl]; exact h.vl) of (by rw [hl]; exact ho), getD_setT _ _ _ _ ho, if_pos rfl]
   ·rw [if_neg e]
    by_cases hi : i < S.T.length
    ·rw [zip_getD _ V (by rw [hl]; exact h.vl) i (by rw [hl]; exact hi), getD_setT _ _ _ _ ho, if_neg (fun x => e x.symm), zip_getD _ V h.vl i hi]
    ·rw [List.getElem?_eq_none (by rw [List.length_zip, hl]; omega), List.getElem?_eq_none (by rw [List.length_zip]; omega)]
  rw [e];have hgd : (S.T.zip V).getD of (IT.no, vNo) = (S.T.getD of IT.no, V.getD of vNo) := by rw [List.getD_eq_getElem?_getD, zip_getD _ V h.vl of ho]; rfl
  exact flat_set_same itCells (S.T.zip V) of _ (IT.no, vNo) (fun _ => by rw [hgd]; rfl)
 refine ⟨⟨(hcp F.mb h.blk.lt (by rw [h.sep.mb]; omega)).trans h.blk, ?_, row_kept h.Fr fun b hb => hcp b (row_lt h.Fr hb) (by rw [h.colF hb]; omega), ?_, h.v0, fun i i1 hi => ?_, kept_below h.below hk (fun b e => by rw [e]; exact hcge), h.hm, h.sep, h.codeR, h.clsR, h.r8, h.dl, h.hl⟩, hk.mono fun b _ e => .inr (.inr (.inr ⟨of, by rw [hv, e]; rfl⟩))⟩
 ·show World.ownsRow _ 0 _ 4 _ (S.T.set of ((S.T.getD of IT.no).withCells c)).length (((S.T.set of ((S.T.getD of IT.no).withCells c)).zip V).flatMap itCells);rw [hl, hz];exact row_kept h.T fun b hb => hcp b (row_lt h.T hb) (by rw [h.colT hb]; omega)
 ·show V.length = (S.T.set of ((S.T.getD of IT.no).withCells c)).length;rw [hl]; exact h.vl
 ·change i < (S.T.set of ((S.T.getD of IT.no).withCells c)).length at hi;rw [hl] at hi;show TRow _ _ _ i _ ((S.T.set of ((S.T.getD of IT.no).withCells c)).getD i IT.no).cells;rw [getD_setT _ _ _ _ ho]
  by_cases e : i = of
  ·subst e;rw [if_pos rfl];exact ⟨cb, by rw [hv]; show _ = Value.slice _ c.length c.length; rw [hc], hb, hcge, hcc⟩
  ·rw [if_neg e];exact (h.vn i i1 hi).kept fun b hb => hcp b ((h.vn i i1 hi).lt hb).1 (by rw [h.colV i1 hi hb]; omega)
end
end Go.Proofs.YtjikemhmnkckcabGreat
