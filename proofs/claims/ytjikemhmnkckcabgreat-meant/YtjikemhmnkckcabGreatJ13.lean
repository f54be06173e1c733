import Derived.Test.YtjikemhmnkckcabGreatJ12
namespace Go.Proofs.YtjikemhmnkckcabGreat
namespace Cf
def hasB (st : Int) (cls : List (Int × Int)) (addr : Int) (k : Nat) : Bool :=
 decide (16 * gran st cls k ≤ addr) && decide (addr < 16 * gran st cls k + (sl cls k) * (16 * gr cls k))
def cslotFrom (st : Int) (cls : List (Int × Int)) (addr : Int) : Nat → Nat → Int × Int
 | 0, _ => (-1, 0)
 | f + 1, k => if hasB st cls addr k then ((k : Int), (addr - 16 * gran st cls k) / (16 * gr cls k)) else cslotFrom st cls addr f (k + 1)
theorem begin_eq (st : Int) (cls : List (Int × Int)) (k : Nat) (s : Int) : begin_ st cls k s = 16 * gran st cls k + s * (16 * gr cls k) := by
 unfold begin_; rw [Int.mul_add, Int.mul_left_comm]
theorem inS_iff (st : Int) (cls : List (Int × Int)) (addr : Int) (k s : Nat) (hg : 0 < gr cls k) : inS st cls addr k s = true ↔ (addr - 16 * gran st cls k) / (16 * gr cls k) = (s : Int) := by
 simp only [inS, Bool.and_eq_true, decide_eq_true_eq, begin_eq];have hw : 0 < 16 * gr cls k := by omega
 generalize 16 * gran st cls k = b at *;generalize 16 * gr cls k = v at *
 constructor
 ·rintro ⟨h1, h2⟩;have e : addr - b = (addr - b - s * v) + s * v := by omega
  rw [e, Int.add_mul_ediv_right _ _ (by omega), Int.ediv_eq_zero_of_lt (by omega) (by omega)]; omega
 ·intro h;have h1 := Int.mul_ediv_add_emod (addr - b) v;have h2 := Int.emod_nonneg (addr - b) (show v ≠ 0 by omega);have h3 := Int.emod_lt_of_pos (addr - b) hw;rw [h, Int.mul_comm] at h1;omega
theorem firstFrom_one (p : Nat → Bool) (s f i : Nat) (h1 : i ≤ s) (h2 : s < i + f) (hp : p s = true) (hn : ∀ j, i ≤ j → j < s → p j = false) : Ref.firstFrom p f i = s := by
 induction f generalizing i with
 | zero => omega
 | succ f ih =>
   simp only [Ref.firstFrom]
   by_cases e : i = s
   ·subst e; rw [if_pos hp]
   ·rw [if_neg (by rw [hn i (by omega) (by omega)]; simp)];exact ih (i + 1) (by omega) (by omega) (fun j h3 h4 => hn j (by omega) h4)
theorem firstFrom_none (p : Nat → Bool) (f i : Nat) (hn : ∀ j, i ≤ j → j < i + f → p j = false) : Ref.firstFrom p f i = -1 := by
 induction f generalizing i with
 | zero => rfl
 | succ f ih =>
   simp only [Ref.firstFrom];rw [if_neg (by rw [hn i (by omega) (by omega)]; simp)];exact ih (i + 1) (fun j h3 h4 => hn j (by omega) (by omega))
theorem slotIn_eq (st : Int) (cls : List (Int × Int)) (addr : Int) (k : Nat) (hg : 0 < gr cls k) (hs : 0 ≤ sl cls k) :
 slotIn st cls addr k = if hasB st cls addr k then (addr - 16 * gran st cls k) / (16 * gr cls k) else -1 := by
 have hw : 0 < 16 * gr cls k := by omega
 unfold slotIn
 by_cases h : hasB st cls addr k = true
 ·rw [if_pos h];simp only [hasB, Bool.and_eq_true, decide_eq_true_eq] at h;have h0 : 0 ≤ (addr - 16 * gran st cls k) / (16 * gr cls k) := Int.ediv_nonneg (by omega) (by omega);have h1 : (addr - 16 * gran st cls k) / (16 * gr cls k) < sl cls k := Int.ediv_lt_of_lt_mul hw (by omega);obtain ⟨s, hs'⟩ := Int.eq_ofNat_of_zero_le h0;rw [hs'];refine firstFrom_one _ s _ 0 (by omega) (by omega) ((inS_iff st cls addr k s hg).2 hs') (fun j _ hj => ?_)
  cases e : inS st cls addr k j
  ·rfl
  ·have := (inS_iff st cls addr k j hg).1 e; omega
 ·rw [if_neg h];refine firstFrom_none _ _ _ (fun j _ hj => ?_)
  cases e : inS st cls addr k j
  ·rfl
  ·exfalso;apply h;simp only [inS, Bool.and_eq_true, decide_eq_true_eq, begin_eq] at e;simp only [hasB, Bool.and_eq_true, decide_eq_true_eq]
   have h2 : (j : Int) * (16 * gr cls k) + (16 * gr cls k) ≤ sl cls k * (16 * gr cls k) := by
    have : ((j : Int) + 1) * (16 * gr cls k) ≤ sl cls k * (16 * gr cls k) := Int.mul_le_mul_of_nonneg_right (by omega) (by omega);rw [Int.add_mul] at this; omega
   have h3 : 0 ≤ (j : Int) * (16 * gr cls k) := Int.mul_nonneg (by omega) (by omega);omega
theorem cslot_eq {st rest : Int} {cls : List (Int × Int)} (hv : Valid st rest cls) (addr : Int) (f k : Nat) (h : k + f ≤ cls.length) :
 slotFrom st cls addr f k = if (cslotFrom st cls addr f k).1 < 0 then (-1, -1) else cslotFrom st cls addr f k := by
 induction f generalizing k with
 | zero => rfl
 | succ f ih =>
   have hg := hv.g0 k (by omega);have hs := hv.s0 k (by omega);have hi := slotIn_eq st cls addr k (by omega) (by omega)
   by_cases hh : hasB st cls addr k = true
   ·have h0 : 0 ≤ (addr - 16 * gran st cls k) / (16 * gr cls k) := by
     simp only [hasB, Bool.and_eq_true, decide_eq_true_eq] at hh;exact Int.ediv_nonneg (by omega) (by omega)
    rw [if_pos hh] at hi;have e1 : cslotFrom st cls addr (f + 1) k = ((k : Int), (addr - 16 * gran st cls k) / (16 * gr cls k)) := if_pos hh;have e2 : slotFrom st cls addr (f + 1) k = ((k : Int), slotIn st cls addr k) := if_pos (by omega);rw [e1, e2, hi, if_neg (by simp)]
   ·rw [if_neg hh] at hi;have e1 : cslotFrom st cls addr (f + 1) k = cslotFrom st cls addr f (k + 1) := if_neg hh;have e2 : slotFrom st cls addr (f + 1) k = slotFrom st cls addr f (k + 1) := if_neg (by omega);rw [e1, e2];exact ih (k + 1) (by omega)
def cslot (st : Int) (cls : List (Int × Int)) (addr : Int) : Int × Int := cslotFrom st cls addr cls.length 0
theorem cslot_no {st rest : Int} {cls : List (Int × Int)} (hv : Valid st rest cls) (addr : Int) (h : slot st cls addr = (-1, -1)) : cslot st cls addr = (-1, 0) := by
 have e := cslot_eq hv addr cls.length 0 (by omega)
 have hx : ∀ f k, (cslotFrom st cls addr f k).1 < 0 → cslotFrom st cls addr f k = (-1, 0) := by
  intro f
  induction f with
  | zero => intro k _; rfl
  | succ f ih =>
    intro k hk;simp only [cslotFrom] at hk ⊢
    split
    ·rename_i hh; rw [if_pos hh] at hk; simp at hk; omega
    ·rename_i hh; rw [if_neg hh] at hk; exact ih _ hk
 unfold slot at h;unfold cslot;rw [h] at e
 by_cases h1 : (cslotFrom st cls addr cls.length 0).1 < 0
 ·exact hx _ _ h1
 ·rw [if_neg h1] at e; rw [← e] at h1; simp at h1
theorem cslot_yes {st rest : Int} {cls : List (Int × Int)} (hv : Valid st rest cls) (addr : Int) (i j : Nat) (h : slot st cls addr = ((i : Int), (j : Int))) : cslot st cls addr = ((i : Int), (j : Int)) := by
 have e := cslot_eq hv addr cls.length 0 (by omega);unfold slot at h;unfold cslot;rw [h] at e
 by_cases h1 : (cslotFrom st cls addr cls.length 0).1 < 0
 ·rw [if_pos h1] at e; simp at e
 ·rw [if_neg h1] at e; exact e.symm
end Cf
end Go.Proofs.YtjikemhmnkckcabGreat
namespace Go.Proofs.YtjikemhmnkckcabGreat
open Go.RowKit
structure GOk (G : GSt) (rest : Int) (cls : List (Int × Int)) : Prop where
 conf : Cf.Valid G.st rest cls
 rest_ : G.rest = rest
 len : G.cs.length = cls.length
 bg : ∀ k, k < cls.length → (G.cs.getD k GCls.no).begin_ = 16 * Cf.gran G.st cls k
 by_ : ∀ k, k < cls.length → (G.cs.getD k GCls.no).bytes = 16 * Cf.gr cls k
 sl : ∀ k, k < cls.length → ((G.cs.getD k GCls.no).slots.length : Int) = Cf.sl cls k
set_option maxHeartbeats 400000 in
theorem has_any (b off : Nat) (bg by_ addr : Int) (n : Nat) (sa : Option Addr) (sc : Nat) (w : World) (h0 : w.cell? ⟨b, off, none⟩ = some (.int .i64 bg)) (h1 : w.cell? ⟨b, off + 1, none⟩ = some (.int .i64 by_)) (h2 : w.cell? ⟨b, off + 2, none⟩ = some (.slice sa n sc))
 (b0 : 0 ≤ bg) (b1 : bg ≤ 1000000) (m0 : 0 ≤ (n : Int) * by_) (m1 : (n : Int) * by_ ≤ 1000000) :
 Calls Tryz.prog 162 #[.pointer (some ⟨b, off, none⟩), .int .i64 addr] w fun e w' => e = .returned (.bool (decide (bg ≤ addr) && decide (addr < bg + (n : Int) * by_))) ∧ Below w.heap.size w w' := by
 have hbl := World.block_lt_of_cell? w _ h0;go_enter Tryz.func162, Tryz.ntmps162
 go_wp2_with (go_at_call 55; refine (slotBegin_any b off bg by_ (n : Int) _ h0 h1 b0 b1 m0 m1).mono ?_; rintro e1 w1 ⟨rfl, hb1⟩; have q0 := (hb1.cell (p := ⟨b, off, none⟩) hbl).trans h0)
 all_goals
  go_ret;refine ⟨ret_bool ?_, hb1⟩
  first | (simp [*]; done) | (simp [*]; omega)
set_option maxHeartbeats 400000 in
theorem inStatic_any (p : Nat) (vc : Value) (bb : Nat) (G : GSt) (addr : Int) (w : World) (h : GRep w p vc bb G) (s0 : 0 ≤ G.st) (s1 : G.st ≤ 16) :
 Calls Tryz.prog 164 #[.pointer (some ⟨p, 0, none⟩), .int .i64 addr] w fun e w' => e = .returned (.bool (decide (16 ≤ addr) && decide (addr < 16 * (1 + G.st)))) ∧ w' = w := by
 have c0 := h.blk.cell (j := 0) rfl;clear h;go_enter Tryz.func164, Tryz.ntmps164;go_wp2
 all_goals
  go_ret;refine ⟨ret_bool ?_, rfl⟩
  first | (simp [*]; done) | (simp [*]; omega) | (rw [Bool.eq_iff_iff]; simp [*]; omega)
set_option maxRecDepth 100000 in
set_option maxHeartbeats 1600000 in
theorem slotAt_any (p : Nat) (vc : Value) (bb : Nat) (G : GSt) (rest : Int) (cls : List (Int × Int)) (addr : Int) (w : World) (h : GRep w p vc bb G) (ho : GOk G rest cls) (a0 : -9223372036854775808 ≤ addr) (a1 : addr ≤ 9223372036854775807) :
 Calls Tryz.prog 157 #[.pointer (some ⟨p, 0, none⟩), .int .i64 addr] w fun e w' => e = .returned (.tuple #[.int .i64 (Cf.cslot G.st cls addr).1, .int .i64 (Cf.cslot G.st cls addr).2]) ∧ Below w.heap.size w w' := by
 have HR : Hid (GRep w p vc bb G) := h;have HO : Hid (GOk G rest cls) := ho;have hp := h.blk.lt;have c2 := h.blk.cell (j := 2) rfl;have n0 := ho.conf.n0;have n1 := ho.conf.n1;have hlen := ho.len;obtain ⟨ac, cap, rfl, hcap, hmax, hrow⟩ := row_open h.cls;obtain ⟨g, rfl, hgl, hcell, _⟩ := hrow (by omega);unfold maxLen at hmax;have HC : Hid (∀ j u, (G.cs.flatMap gclsCells)[j]? = some u → w.cell? ⟨g, j, none⟩ = some u) := hcell;have HL : Hid (G.cs.length = cls.length) := hlen;have hl1 : G.cs.length ≤ 4 := by omega
 clear h ho hrow hcell hlen;go_enter Tryz.func157, Tryz.ntmps157;go_wp2
 go_loopw [6] (fun i wr => ∃ m f : Nat, m + f = G.cs.length ∧ i = .int .i64 (m : Int) ∧ Hid (Cf.cslot G.st cls addr = Cf.cslotFrom G.st cls addr f m) ∧ Below w.heap.size w wr) (fun i _ => G.cs.length - (intOf i).toNat)
 case atStart => exact ⟨0, G.cs.length, by omega, rfl, by show _ = _; rw [HL.out]; rfl, Below.refl _ _⟩
 case round =>
  obtain ⟨m, f, hm, rfl, hs, hb⟩ := hrel;have c2' := (hb.cell (p := ⟨p, 2, none⟩) hp).trans c2
  cases f with
  | zero =>
    have hm' : ¬ (m : Int) < G.cs.length := by omega
    clear hm;go_wp2;go_ret2;exact ⟨by rw [hs.out]; rfl, hb⟩
  | succ f =>
    have hlt : m < G.cs.length := by omega
    have hlt2 : m < cls.length := by have := HL.out; omega
    have HM : Hid (m + (f + 1) = G.cs.length) := hm;obtain ⟨d0, d1, d2⟩ := gcls_cells HC.out m hlt;rw [HO.out.bg m hlt2] at d0;rw [HO.out.by_ m hlt2] at d1;have hsl := HO.out.sl m hlt2;have g0 := HO.out.conf.g0 m hlt2;have g1 := HO.out.conf.g1 m hlt2;have s0 := HO.out.conf.s0 m hlt2;have s1 := HO.out.conf.s1 m hlt2;have gb := Cf.gran_bd HO.out.conf m (by omega);have pbd := Cf.prod_bd (a := Cf.sl cls m) (b := Cf.gr cls m) (by omega) (by omega) (by omega) (by omega);have hst : Hid (Cf.cslotFrom G.st cls addr (f + 1) m = if Cf.hasB G.st cls addr m then ((m : Int), (addr - 16 * Cf.gran G.st cls m) / (16 * Cf.gr cls m)) else Cf.cslotFrom G.st cls addr f (m + 1)) := rfl;have hhas : Hid (Cf.hasB G.st cls addr m = (decide (16 * Cf.gran G.st cls m ≤ addr) && decide (addr < 16 * Cf.gran G.st cls m + (Cf.sl cls m) * (16 * Cf.gr cls m)))) := rfl;rw [← hsl] at hhas pbd;have pb2 : ((G.cs.getD m GCls.no).slots.length : Int) * (16 * Cf.gr cls m) = 16 * (((G.cs.getD m GCls.no).slots.length : Int) * Cf.gr cls m) := Int.mul_left_comm _ _ _
    have PM : Hid (0 ≤ ((G.cs.getD m GCls.no).slots.length : Int) * (16 * Cf.gr cls m) ∧ ((G.cs.getD m GCls.no).slots.length : Int) * (16 * Cf.gr cls m) ≤ 1000000) := by
     rw [pb2]; exact ⟨by omega, by omega⟩
    have d0' := (hb.cell (p := ⟨g, m * 3, none⟩) hgl).trans d0;have d1' := (hb.cell (p := ⟨g, m * 3 + 1, none⟩) hgl).trans d1;have d2' := (hb.cell (p := ⟨g, m * 3 + 2, none⟩) hgl).trans d2;generalize (G.cs.getD m GCls.no).slots.length = n at *;generalize (G.cs.getD m GCls.no).sb = sb at *;clear d0 d1 d2 hm hsl pb2 pbd
    cases hh : Cf.hasB G.st cls addr m
    ·have HH : Hid ((decide (16 * Cf.gran G.st cls m ≤ addr) && decide (addr < 16 * Cf.gran G.st cls m + (n : Int) * (16 * Cf.gr cls m))) = false) := by show _ = _; rw [← hhas.out, hh]
     have hfin : Hid (Cf.cslot G.st cls addr = Cf.cslotFrom G.st cls addr f (m + 1)) := by show _ = _; rw [hs.out, hst.out, hh]; rfl
     clear hh
     go_wp2_with fail
     refine (has_any wr.heap.size 0 (16 * Cf.gran G.st cls m) (16 * Cf.gr cls m) addr n (some ⟨sb, 0, none⟩) n _ (World.cell?_alloc_new _ _ _ _) (World.cell?_alloc_new _ _ _ _) (World.cell?_alloc_new _ _ _ _) (by omega) (by omega) PM.out.1 PM.out.2).mono ?_;rw [HH.out];rintro e1 w1 ⟨rfl, hb1⟩;go_wp2
     go_roundw
     case rel => exact ⟨m + 1, f, by have := HM.out; omega, by go_num, hfin, (hb.alloc hb.size _).trans (hb1.mono (by rw [World.size_alloc]; have := hb.size; omega))⟩
     case measure => simp [intOf]; omega
    ·have HH : Hid ((decide (16 * Cf.gran G.st cls m ≤ addr) && decide (addr < 16 * Cf.gran G.st cls m + (n : Int) * (16 * Cf.gr cls m))) = true) := by show _ = _; rw [← hhas.out, hh]
     have hfin : Hid (Cf.cslot G.st cls addr = ((m : Int), (addr - 16 * Cf.gran G.st cls m) / (16 * Cf.gr cls m))) := by show _ = _; rw [hs.out, hst.out, hh]; rfl
     have hlo : 16 * Cf.gran G.st cls m ≤ addr := by have := HH.out; simp only [Bool.and_eq_true, decide_eq_true_eq] at this; exact this.1
     clear hh
     go_wp2_with fail
     refine (has_any wr.heap.size 0 (16 * Cf.gran G.st cls m) (16 * Cf.gr cls m) addr n (some ⟨sb, 0, none⟩) n _ (World.cell?_alloc_new _ _ _ _) (World.cell?_alloc_new _ _ _ _) (World.cell?_alloc_new _ _ _ _) (by omega) (by omega) PM.out.1 PM.out.2).mono ?_;rw [HH.out];rintro e1 w1 ⟨rfl, hb1⟩;have q0 := (hb1.cell (p := ⟨wr.heap.size, 0, none⟩) (by simp)).trans (World.cell?_alloc_new _ _ _ _);have q1 := (hb1.cell (p := ⟨wr.heap.size, 1, none⟩) (by simp)).trans (World.cell?_alloc_new _ _ _ _);go_wp2
     go_quiet (fail)
     go_wp2;go_ret2;exact ⟨by rw [hfin.out]; rfl, below_drewN ((hb.alloc hb.size _).trans (hb1.mono (by rw [World.size_alloc]; have := hb.size; omega))) _⟩
def slotOf (G : GSt) (k s : Nat) : GSlot := (G.cs.getD k GCls.no).slots.getD s GSlot.no
def gtag (G : GSt) (cls : List (Int × Int)) (addr : Int) : Int :=
 if 16 ≤ addr ∧ addr < 16 * (1 + G.st) then 0
 else if (Cf.slot G.st cls addr).1 < 0 then -1
 else if (slotOf G (Cf.slot G.st cls addr).1.toNat (Cf.slot G.st cls addr).2.toNat).state = 3 ∧ addr < Cf.begin_ G.st cls (Cf.slot G.st cls addr).1.toNat (Cf.slot G.st cls addr).2 + (slotOf G (Cf.slot G.st cls addr).1.toNat (Cf.slot G.st cls addr).2.toNat).bytes
 then (slotOf G (Cf.slot G.st cls addr).1.toNat (Cf.slot G.st cls addr).2.toNat).tag else 15
def GBd (G : GSt) : Prop := ∀ k s, 0 ≤ (slotOf G k s).bytes ∧ (slotOf G k s).bytes ≤ 128
set_option maxRecDepth 100000 in
set_option maxHeartbeats 1600000 in
theorem gtag_any (p : Nat) (vc : Value) (bb : Nat) (G : GSt) (rest : Int) (cls : List (Int × Int)) (addr : Int) (w : World) (h : GRep w p vc bb G) (ho : GOk G rest cls) (hbd : GBd G) (a0 : -9223372036854775808 ≤ addr) (a1 : addr ≤ 9223372036854775807) :
 Calls Tryz.prog 163 #[.pointer (some ⟨p, 0, none⟩), .int .i64 addr] w fun e w' => e = .returned (.int .i64 (gtag G cls addr)) ∧ Below w.heap.size w w' := by
 have HR : Hid (GRep w p vc bb G) := h;have HO : Hid (GOk G rest cls) := ho;have hp := h.blk.lt;have c2 := h.blk.cell (j := 2) rfl;have b0 := ho.conf.st0;have b1 := ho.conf.st1;have n0 := ho.conf.n0;have n1 := ho.conf.n1;have hlen := ho.len;obtain ⟨ac, cap, rfl, hcap, hmax, hrow⟩ := row_open h.cls;obtain ⟨g, rfl, hgl, hcell, _⟩ := hrow (by omega);unfold maxLen at hmax;have HC : Hid (∀ j u, (G.cs.flatMap gclsCells)[j]? = some u → w.cell? ⟨g, j, none⟩ = some u) := hcell;have HB : Hid (GBd G) := hbd;have hl1 : G.cs.length ≤ 4 := by omega
 have htag : Hid (gtag G cls addr = if 16 ≤ addr ∧ addr < 16 * (1 + G.st) then 0
  else if (Cf.slot G.st cls addr).1 < 0 then -1
  else if (slotOf G (Cf.slot G.st cls addr).1.toNat (Cf.slot G.st cls addr).2.toNat).state = 3 ∧ addr < Cf.begin_ G.st cls (Cf.slot G.st cls addr).1.toNat (Cf.slot G.st cls addr).2 + (slotOf G (Cf.slot G.st cls addr).1.toNat (Cf.slot G.st cls addr).2.toNat).bytes
  then (slotOf G (Cf.slot G.st cls addr).1.toNat (Cf.slot G.st cls addr).2.toNat).tag else 15) := rfl
 clear h ho hrow hcell hbd
 by_cases hs : 16 ≤ addr ∧ addr < 16 * (1 + G.st)
 ·have hfin : Hid (gtag G cls addr = 0) := by show _ = _; rw [htag.out, if_pos hs]
  have HS : Hid ((decide (16 ≤ addr) && decide (addr < 16 * (1 + G.st))) = true) := by show _ = _; simp [hs]
  clear htag hs hlen;go_enter Tryz.func163, Tryz.ntmps163
  go_wp2_with (go_at_call 164; refine (inStatic_any p _ bb G addr _ HR.out b0 b1).mono ?_; rw [HS.out]; rintro e1 w1 ⟨rfl, rfl⟩)
  go_ret;exact ⟨ret_int hfin.out.symm, Below.refl _ _⟩
 ·have HS : Hid ((decide (16 ≤ addr) && decide (addr < 16 * (1 + G.st))) = false) := by show _ = _; simpa using hs
  have htag2 := htag.out;rw [if_neg hs] at htag2;clear htag hs
  rcases Cf.slot_bd G.st cls addr with hsl | ⟨k, s, hsl, hk, hs2, _⟩
  ·have hfin : Hid (gtag G cls addr = -1) := by show _ = _; rw [htag2, hsl]; rfl
   have HL : Hid (Cf.cslot G.st cls addr = (-1, 0)) := Cf.cslot_no HO.out.conf addr hsl;clear htag2 hsl hlen;go_enter Tryz.func163, Tryz.ntmps163
   go_wp2_with (first
    | (go_at_call 164; refine (inStatic_any p _ bb G addr _ HR.out b0 b1).mono ?_; rw [HS.out]; rintro e1 w1 ⟨rfl, rfl⟩)
    | (go_at_call 157; refine (slotAt_any p _ bb G rest cls addr _ HR.out HO.out a0 a1).mono ?_; rw [HL.out]; rintro e1 w2 ⟨rfl, hb2⟩))
   go_ret;exact ⟨ret_int hfin.out.symm, hb2⟩
  ·have hfin : Hid (gtag G cls addr = if (slotOf G k s).state = 3 ∧ addr < Cf.begin_ G.st cls k s + (slotOf G k s).bytes then (slotOf G k s).tag else 15) := by
    show _ = _; rw [htag2, hsl, if_neg (by simp)]; rfl
   have HL : Hid (Cf.cslot G.st cls addr = ((k : Int), (s : Int))) := Cf.cslot_yes HO.out.conf addr k s hsl;have hkl : k < G.cs.length := by omega
   obtain ⟨d0, d1, d2⟩ := gcls_cells HC.out k hkl;rw [HO.out.bg k hk] at d0;rw [HO.out.by_ k hk] at d1;have hsl2 := HO.out.sl k hk;have g0 := HO.out.conf.g0 k hk;have g1 := HO.out.conf.g1 k hk;have s0 := HO.out.conf.s0 k hk;have s1 := HO.out.conf.s1 k hk;have hsn : s < (G.cs.getD k GCls.no).slots.length := by omega
   have gb := Cf.gran_bd HO.out.conf k (by omega);have pbd := Cf.prod_bd (a := (s : Int)) (b := Cf.gr cls k) (by omega) (by omega) (by omega) (by omega);have bd := Cf.begin_bd HO.out.conf k hk s (by omega) (by omega);have HBE : Hid (Cf.begin_ G.st cls k s = 16 * Cf.gran G.st cls k + (s : Int) * (16 * Cf.gr cls k)) := Cf.begin_eq _ _ _ _
   have PM : Hid (0 ≤ (s : Int) * (16 * Cf.gr cls k) ∧ (s : Int) * (16 * Cf.gr cls k) ≤ 1000000) := by
    rw [Int.mul_left_comm]; exact ⟨by omega, by omega⟩
   have hblk := HR.out.slots k hkl;have hbl := hblk.lt;obtain ⟨e0, e1, e2, e3, e4, e5⟩ := slot_cells hblk s hsn;have hx := HB.out k s;change w.cell? _ = some (.int .i64 (slotOf G k s).state) at e0;change w.cell? _ = some (.int .i64 (slotOf G k s).tag) at e1;change w.cell? _ = some (.int .i64 (slotOf G k s).bytes) at e2;change w.cell? _ = some (.int .i64 (slotOf G k s).rest) at e3;change w.cell? _ = some (.int .i64 (slotOf G k s).alloc) at e4;change w.cell? _ = some (.int .i64 (slotOf G k s).gone) at e5;generalize slotOf G k s = x at *;generalize (G.cs.getD k GCls.no).slots.length = n at *;generalize (G.cs.getD k GCls.no).sb = sb at *;have hkI : (k : Int) < (G.cs.length : Int) := by omega
   have hsI : (s : Int) < (n : Int) := by omega
   obtain ⟨x1, x2⟩ := hx;clear htag2 hsl hlen hblk hsl2
   cases hst : (x.state == 3)
   ·have hfin2 : Hid (gtag G cls addr = 15) := by
     show _ = _; rw [hfin.out, if_neg (by rw [beq_eq_false_iff_ne] at hst; exact fun h => hst h.1)]
    go_enter Tryz.func163, Tryz.ntmps163
    go_wp2_with fail
    refine (inStatic_any p _ bb G addr _ HR.out b0 b1).mono ?_;rw [HS.out];rintro e1 w1 ⟨rfl, rfl⟩
    go_wp2_with fail
    refine (slotAt_any p _ bb G rest cls addr _ HR.out HO.out a0 a1).mono ?_;rw [HL.out];rintro e1 w2 ⟨rfl, hb2⟩;have c2' := (hb2.cell (p := ⟨p, 2, none⟩) hp).trans c2;have d0' := (hb2.cell (p := ⟨g, k * 3, none⟩) hgl).trans d0;have d1' := (hb2.cell (p := ⟨g, k * 3 + 1, none⟩) hgl).trans d1;have d2' := (hb2.cell (p := ⟨g, k * 3 + 2, none⟩) hgl).trans d2;have e0' := (hb2.cell (p := ⟨sb, s * 6, none⟩) hbl).trans e0;have e1' := (hb2.cell (p := ⟨sb, s * 6 + 1, none⟩) hbl).trans e1;have e2' := (hb2.cell (p := ⟨sb, s * 6 + 2, none⟩) hbl).trans e2;have e3' := (hb2.cell (p := ⟨sb, s * 6 + 3, none⟩) hbl).trans e3;have e4' := (hb2.cell (p := ⟨sb, s * 6 + 4, none⟩) hbl).trans e4;have e5' := (hb2.cell (p := ⟨sb, s * 6 + 5, none⟩) hbl).trans e5;have hpl : p < w2.heap.size := Nat.lt_of_lt_of_le hp hb2.size;have hgl2 : g < w2.heap.size := Nat.lt_of_lt_of_le hgl hb2.size;clear c2 d0 d1 d2 e0 e1 e2 e3 e4 e5
    go_wp2_with fail
    refine (slotBegin_any g (k * 3) (16 * Cf.gran G.st cls k) (16 * Cf.gr cls k) (s : Int) _ ((World.cell?_alloc_lt _ _ _ hgl2).trans d0') ((World.cell?_alloc_lt _ _ _ hgl2).trans d1') (by omega) (by omega) PM.out.1 PM.out.2).mono ?_;rw [← HBE.out];rintro e1 w3 ⟨rfl, hb3⟩;have q0 := (hb3.cell (p := ⟨w2.heap.size, 0, none⟩) (by simp)).trans (World.cell?_alloc_new _ _ _ _);have q1 := (hb3.cell (p := ⟨w2.heap.size, 1, none⟩) (by simp)).trans (World.cell?_alloc_new _ _ _ _);have q2 := (hb3.cell (p := ⟨w2.heap.size, 2, none⟩) (by simp)).trans (World.cell?_alloc_new _ _ _ _);have hbw : Hid (Below w1.heap.size w1 w3) := (hb2.alloc hb2.size _).trans (hb3.mono (by rw [World.size_alloc]; have := hb2.size; omega));clear hb3 c2' d0' d1' d2' e0' e1' e2' e3' e4' e5';go_wp2
    all_goals
     go_ret;exact ⟨ret_int hfin2.out.symm, hbw.out⟩
   ·have hst3 : x.state = 3 := by simpa using hst
    by_cases hlt : addr < Cf.begin_ G.st cls k s + x.bytes
    ·have hfin2 : Hid (gtag G cls addr = x.tag) := by show _ = _; rw [hfin.out, if_pos ⟨hst3, hlt⟩]
     clear hst3;go_enter Tryz.func163, Tryz.ntmps163
     go_wp2_with fail
     refine (inStatic_any p _ bb G addr _ HR.out b0 b1).mono ?_;rw [HS.out];rintro e1 w1 ⟨rfl, rfl⟩
     go_wp2_with fail
     refine (slotAt_any p _ bb G rest cls addr _ HR.out HO.out a0 a1).mono ?_;rw [HL.out];rintro e1 w2 ⟨rfl, hb2⟩;have c2' := (hb2.cell (p := ⟨p, 2, none⟩) hp).trans c2;have d0' := (hb2.cell (p := ⟨g, k * 3, none⟩) hgl).trans d0;have d1' := (hb2.cell (p := ⟨g, k * 3 + 1, none⟩) hgl).trans d1;have d2' := (hb2.cell (p := ⟨g, k * 3 + 2, none⟩) hgl).trans d2;have e0' := (hb2.cell (p := ⟨sb, s * 6, none⟩) hbl).trans e0;have e1' := (hb2.cell (p := ⟨sb, s * 6 + 1, none⟩) hbl).trans e1;have e2' := (hb2.cell (p := ⟨sb, s * 6 + 2, none⟩) hbl).trans e2;have e3' := (hb2.cell (p := ⟨sb, s * 6 + 3, none⟩) hbl).trans e3;have e4' := (hb2.cell (p := ⟨sb, s * 6 + 4, none⟩) hbl).trans e4;have e5' := (hb2.cell (p := ⟨sb, s * 6 + 5, none⟩) hbl).trans e5;have hpl : p < w2.heap.size := Nat.lt_of_lt_of_le hp hb2.size;have hgl2 : g < w2.heap.size := Nat.lt_of_lt_of_le hgl hb2.size;clear c2 d0 d1 d2 e0 e1 e2 e3 e4 e5
     go_wp2_with fail
     refine (slotBegin_any g (k * 3) (16 * Cf.gran G.st cls k) (16 * Cf.gr cls k) (s : Int) _ ((World.cell?_alloc_lt _ _ _ hgl2).trans d0') ((World.cell?_alloc_lt _ _ _ hgl2).trans d1') (by omega) (by omega) PM.out.1 PM.out.2).mono ?_;rw [← HBE.out];rintro e1 w3 ⟨rfl, hb3⟩;have q0 := (hb3.cell (p := ⟨w2.heap.size, 0, none⟩) (by simp)).trans (World.cell?_alloc_new _ _ _ _);have q1 := (hb3.cell (p := ⟨w2.heap.size, 1, none⟩) (by simp)).trans (World.cell?_alloc_new _ _ _ _);have q2 := (hb3.cell (p := ⟨w2.heap.size, 2, none⟩) (by simp)).trans (World.cell?_alloc_new _ _ _ _);have hbw : Hid (Below w1.heap.size w1 w3) := (hb2.alloc hb2.size _).trans (hb3.mono (by rw [World.size_alloc]; have := hb2.size; omega));clear hb3 c2' d0' d1' d2' e0' e1' e2' e3' e4' e5';go_wp2;go_ret;exact ⟨ret_int hfin2.out.symm, hbw.out⟩
    ·have hfin2 : Hid (gtag G cls addr = 15) := by show _ = _; rw [hfin.out, if_neg (fun h => hlt h.2)]
     clear hst3;go_enter Tryz.func163, Tryz.ntmps163
     go_wp2_with fail
     refine (inStatic_any p _ bb G addr _ HR.out b0 b1).mono ?_;rw [HS.out];rintro e1 w1 ⟨rfl, rfl⟩
     go_wp2_with fail
     refine (slotAt_any p _ bb G rest cls addr _ HR.out HO.out a0 a1).mono ?_;rw [HL.out];rintro e1 w2 ⟨rfl, hb2⟩;have c2' := (hb2.cell (p := ⟨p, 2, none⟩) hp).trans c2;have d0' := (hb2.cell (p := ⟨g, k * 3, none⟩) hgl).trans d0;have d1' := (hb2.cell (p := ⟨g, k * 3 + 1, none⟩) hgl).trans d1;have d2' := (hb2.cell (p := ⟨g, k * 3 + 2, none⟩) hgl).trans d2;have e0' := (hb2.cell (p := ⟨sb, s * 6, none⟩) hbl).trans e0;have e1' := (hb2.cell (p := ⟨sb, s * 6 + 1, none⟩) hbl).trans e1;have e2' := (hb2.cell (p := ⟨sb, s * 6 + 2, none⟩) hbl).trans e2;have e3' := (hb2.cell (p := ⟨sb, s * 6 + 3, none⟩) hbl).trans e3;have e4' := (hb2.cell (p := ⟨sb, s * 6 + 4, none⟩) hbl).trans e4;have e5' := (hb2.cell (p := ⟨sb, s * 6 + 5, none⟩) hbl).trans e5;have hpl : p < w2.heap.size := Nat.lt_of_lt_of_le hp hb2.size;have hgl2 : g < w2.heap.size := Nat.lt_of_lt_of_le hgl hb2.size;clear c2 d0 d1 d2 e0 e1 e2 e3 e4 e5
     go_wp2_with fail
     refine (slotBegin_any g (k * 3) (16 * Cf.gran G.st cls k) (16 * Cf.gr cls k) (s : Int) _ ((World.cell?_alloc_lt _ _ _ hgl2).trans d0') ((World.cell?_alloc_lt _ _ _ hgl2).trans d1') (by omega) (by omega) PM.out.1 PM.out.2).mono ?_;rw [← HBE.out];rintro e1 w3 ⟨rfl, hb3⟩;have q0 := (hb3.cell (p := ⟨w2.heap.size, 0, none⟩) (by simp)).trans (World.cell?_alloc_new _ _ _ _);have q1 := (hb3.cell (p := ⟨w2.heap.size, 1, none⟩) (by simp)).trans (World.cell?_alloc_new _ _ _ _);have q2 := (hb3.cell (p := ⟨w2.heap.size, 2, none⟩) (by simp)).trans (World.cell?_alloc_new _ _ _ _);have hbw : Hid (Below w1.heap.size w1 w3) := (hb2.alloc hb2.size _).trans (hb3.mono (by rw [World.size_alloc]; have := hb2.size; omega));clear hb3 c2' d0' d1' d2' e0' e1' e2' e3' e4' e5';go_wp2;go_ret;exact ⟨ret_int hfin2.out.symm, hbw.out⟩
end Go.Proofs.YtjikemhmnkckcabGreat
