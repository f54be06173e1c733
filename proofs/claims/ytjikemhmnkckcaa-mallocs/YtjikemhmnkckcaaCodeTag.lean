import Derived.Test.YtjikemhmnkckcaaCodeMath
import Derived.Test.YtjikemhmnkckcaaCodeNew3
namespace Go.Proofs.Ytjikemhmnkckcaa
open Go.RowKit

/-- the program's classes are those of the configuration -/
structure GOk (G : GSt) (rest : Int) (cls : List (Int × Int)) : Prop where
  conf : Cf.Valid G.st rest cls
  rest_ : G.rest = rest
  len : G.cs.length = cls.length
  bg : ∀ k, k < cls.length → (G.cs.getD k GCls.no).begin_ = 16 * Cf.gran G.st cls k
  by_ : ∀ k, k < cls.length → (G.cs.getD k GCls.no).bytes = 16 * Cf.gr cls k
  sl : ∀ k, k < cls.length → ((G.cs.getD k GCls.no).slots.length : Int) = Cf.sl cls k

set_option maxHeartbeats 400000 in
theorem has_any (b off : Nat) (bg by_ addr : Int) (n : Nat) (sa : Option Addr) (sc : Nat) (w : World) (h0 : w.cell? ⟨b, off, none⟩ = some (.int .i64 bg)) (h1 : w.cell? ⟨b, off + 1, none⟩ = some (.int .i64 by_)) (h2 : w.cell? ⟨b, off + 2, none⟩ = some (.slice sa n sc))
    (b0 : 0 ≤ bg) (b1 : bg ≤ 1000000) (m0 : 0 ≤ (n : Int) * by_) (m1 : (n : Int) * by_ ≤ 1000000) :
    Calls Try.prog 79 #[.pointer (some ⟨b, off, none⟩), .int .i64 addr] w fun e w' => e = .returned (.bool (decide (bg ≤ addr) && decide (addr < bg + (n : Int) * by_))) ∧ Below w.heap.size w w' := by
  have hbl := World.block_lt_of_cell? w _ h0
  go_enter Try.func79, Try.ntmps79
  go_wp2_with (go_at_call 43; refine (slotBegin_any b off bg by_ (n : Int) _ h0 h1 b0 b1 m0 m1).mono ?_; rintro e1 w1 ⟨rfl, hb1⟩; have q0 := (hb1.cell (p := ⟨b, off, none⟩) hbl).trans h0)
  all_goals
    go_ret
    refine ⟨ret_bool ?_, hb1⟩
    first | (simp [*]; done) | (simp [*]; omega)

set_option maxHeartbeats 400000 in
theorem inStatic_any (p : Nat) (vc : Value) (bb : Nat) (G : GSt) (addr : Int) (w : World) (h : GRep w p vc bb G) (s0 : 0 ≤ G.st) (s1 : G.st ≤ 16) :
    Calls Try.prog 41 #[.pointer (some ⟨p, 0, none⟩), .int .i64 addr] w fun e w' => e = .returned (.bool (decide (16 ≤ addr) && decide (addr < 16 * (1 + G.st)))) ∧ w' = w := by
  have c0 := h.blk.cell (j := 0) rfl
  clear h
  go_enter Try.func41, Try.ntmps41
  go_wp2
  all_goals
    go_ret
    refine ⟨ret_bool ?_, rfl⟩
    first | (simp [*]; done) | (simp [*]; omega) | (rw [Bool.eq_iff_iff]; simp [*]; omega)

set_option maxRecDepth 100000 in
set_option maxHeartbeats 1600000 in
theorem slotAt_any (p : Nat) (vc : Value) (bb : Nat) (G : GSt) (rest : Int) (cls : List (Int × Int)) (addr : Int) (w : World) (h : GRep w p vc bb G) (ho : GOk G rest cls) (a0 : -9223372036854775808 ≤ addr) (a1 : addr ≤ 9223372036854775807) :
    Calls Try.prog 42 #[.pointer (some ⟨p, 0, none⟩), .int .i64 addr] w fun e w' => e = .returned (.tuple #[.int .i64 (Cf.cslot G.st cls addr).1, .int .i64 (Cf.cslot G.st cls addr).2]) ∧ Below w.heap.size w w' := by
  have HR : Hid (GRep w p vc bb G) := h
  have HO : Hid (GOk G rest cls) := ho
  have hp := h.blk.lt
  have c2 := h.blk.cell (j := 2) rfl
  have n0 := ho.conf.n0
  have n1 := ho.conf.n1
  have hlen := ho.len
  obtain ⟨ac, cap, rfl, hcap, hmax, hrow⟩ := row_open h.cls
  obtain ⟨g, rfl, hgl, hcell, _⟩ := hrow (by omega)
  unfold maxLen at hmax
  have HC : Hid (∀ j u, (G.cs.flatMap gclsCells)[j]? = some u → w.cell? ⟨g, j, none⟩ = some u) := hcell
  have HL : Hid (G.cs.length = cls.length) := hlen
  have hl1 : G.cs.length ≤ 4 := by omega
  clear h ho hrow hcell hlen
  go_enter Try.func42, Try.ntmps42
  go_wp2
  go_loopw [6] (fun i wr => ∃ m f : Nat, m + f = G.cs.length ∧ i = .int .i64 (m : Int) ∧ Hid (Cf.cslot G.st cls addr = Cf.cslotFrom G.st cls addr f m) ∧ Below w.heap.size w wr) (fun i _ => G.cs.length - (intOf i).toNat)
  case atStart => exact ⟨0, G.cs.length, by omega, rfl, by show _ = _; rw [HL.out]; rfl, Below.refl _ _⟩
  case round =>
    obtain ⟨m, f, hm, rfl, hs, hb⟩ := hrel
    have c2' := (hb.cell (p := ⟨p, 2, none⟩) hp).trans c2
    cases f with
    | zero =>
      have hm' : ¬ (m : Int) < G.cs.length := by omega
      clear hm
      go_wp2
      go_ret2
      exact ⟨by rw [hs.out]; rfl, hb⟩
    | succ f =>
      have hlt : m < G.cs.length := by omega
      have hlt2 : m < cls.length := by have := HL.out; omega
      have HM : Hid (m + (f + 1) = G.cs.length) := hm
      obtain ⟨d0, d1, d2⟩ := gcls_cells HC.out m hlt
      rw [HO.out.bg m hlt2] at d0
      rw [HO.out.by_ m hlt2] at d1
      have hsl := HO.out.sl m hlt2
      have g0 := HO.out.conf.g0 m hlt2
      have g1 := HO.out.conf.g1 m hlt2
      have s0 := HO.out.conf.s0 m hlt2
      have s1 := HO.out.conf.s1 m hlt2
      have gb := Cf.gran_bd HO.out.conf m (by omega)
      have pbd := Cf.prod_bd (a := Cf.sl cls m) (b := Cf.gr cls m) (by omega) (by omega) (by omega) (by omega)
      have hst : Hid (Cf.cslotFrom G.st cls addr (f + 1) m = if Cf.hasB G.st cls addr m then ((m : Int), (addr - 16 * Cf.gran G.st cls m) / (16 * Cf.gr cls m)) else Cf.cslotFrom G.st cls addr f (m + 1)) := rfl
      have hhas : Hid (Cf.hasB G.st cls addr m = (decide (16 * Cf.gran G.st cls m ≤ addr) && decide (addr < 16 * Cf.gran G.st cls m + (Cf.sl cls m) * (16 * Cf.gr cls m)))) := rfl
      rw [← hsl] at hhas pbd
      have pb2 : ((G.cs.getD m GCls.no).slots.length : Int) * (16 * Cf.gr cls m) = 16 * (((G.cs.getD m GCls.no).slots.length : Int) * Cf.gr cls m) := Int.mul_left_comm _ _ _
      have PM : Hid (0 ≤ ((G.cs.getD m GCls.no).slots.length : Int) * (16 * Cf.gr cls m) ∧ ((G.cs.getD m GCls.no).slots.length : Int) * (16 * Cf.gr cls m) ≤ 1000000) := by
        rw [pb2]; exact ⟨by omega, by omega⟩
      have d0' := (hb.cell (p := ⟨g, m * 3, none⟩) hgl).trans d0
      have d1' := (hb.cell (p := ⟨g, m * 3 + 1, none⟩) hgl).trans d1
      have d2' := (hb.cell (p := ⟨g, m * 3 + 2, none⟩) hgl).trans d2
      generalize (G.cs.getD m GCls.no).slots.length = n at *
      generalize (G.cs.getD m GCls.no).sb = sb at *
      clear d0 d1 d2 hm hsl pb2 pbd
      cases hh : Cf.hasB G.st cls addr m
      · have HH : Hid ((decide (16 * Cf.gran G.st cls m ≤ addr) && decide (addr < 16 * Cf.gran G.st cls m + (n : Int) * (16 * Cf.gr cls m))) = false) := by show _ = _; rw [← hhas.out, hh]
        have hfin : Hid (Cf.cslot G.st cls addr = Cf.cslotFrom G.st cls addr f (m + 1)) := by show _ = _; rw [hs.out, hst.out, hh]; rfl
        clear hh
        go_wp2_with fail
        refine (has_any wr.heap.size 0 (16 * Cf.gran G.st cls m) (16 * Cf.gr cls m) addr n (some ⟨sb, 0, none⟩) n _ (World.cell?_alloc_new _ _ _ _) (World.cell?_alloc_new _ _ _ _) (World.cell?_alloc_new _ _ _ _) (by omega) (by omega) PM.out.1 PM.out.2).mono ?_
        rw [HH.out]
        rintro e1 w1 ⟨rfl, hb1⟩
        go_wp2
        go_roundw
        case rel => exact ⟨m + 1, f, by have := HM.out; omega, by go_num, hfin, (hb.alloc hb.size _).trans (hb1.mono (by rw [World.size_alloc]; have := hb.size; omega))⟩
        case measure => simp [intOf]; omega
      · have HH : Hid ((decide (16 * Cf.gran G.st cls m ≤ addr) && decide (addr < 16 * Cf.gran G.st cls m + (n : Int) * (16 * Cf.gr cls m))) = true) := by show _ = _; rw [← hhas.out, hh]
        have hfin : Hid (Cf.cslot G.st cls addr = ((m : Int), (addr - 16 * Cf.gran G.st cls m) / (16 * Cf.gr cls m))) := by show _ = _; rw [hs.out, hst.out, hh]; rfl
        have hlo : 16 * Cf.gran G.st cls m ≤ addr := by have := HH.out; simp only [Bool.and_eq_true, decide_eq_true_eq] at this; exact this.1
        clear hh
        go_wp2_with fail
        refine (has_any wr.heap.size 0 (16 * Cf.gran G.st cls m) (16 * Cf.gr cls m) addr n (some ⟨sb, 0, none⟩) n _ (World.cell?_alloc_new _ _ _ _) (World.cell?_alloc_new _ _ _ _) (World.cell?_alloc_new _ _ _ _) (by omega) (by omega) PM.out.1 PM.out.2).mono ?_
        rw [HH.out]
        rintro e1 w1 ⟨rfl, hb1⟩
        have q0 := (hb1.cell (p := ⟨wr.heap.size, 0, none⟩) (by simp)).trans (World.cell?_alloc_new _ _ _ _)
        have q1 := (hb1.cell (p := ⟨wr.heap.size, 1, none⟩) (by simp)).trans (World.cell?_alloc_new _ _ _ _)
        go_wp2
        go_quiet (fail)
        go_wp2
        go_ret2
        exact ⟨by rw [hfin.out]; rfl, below_drewN ((hb.alloc hb.size _).trans (hb1.mono (by rw [World.size_alloc]; have := hb.size; omega))) _⟩
end Go.Proofs.Ytjikemhmnkckcaa
