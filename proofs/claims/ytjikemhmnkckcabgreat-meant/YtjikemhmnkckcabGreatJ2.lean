import Derived.Test.YtjikemhmnkckcabGreatJ1
import Derived.WalkLawsBesides
namespace Go.Proofs.YtjikemhmnkckcabGreat
open Go.RowKit
theorem ret_bool {a b : Bool} (h : a = b) : Ending.returned (.bool a) = .returned (.bool b) := by rw [h]
theorem ret_int {k : IntKind} {a b : Int} (h : a = b) : Ending.returned (.int k a) = .returned (.int k b) := by rw [h]
structure PickRel (w : World) (l a b : Int) (k : Nat) (wr : World) : Prop where
 below : Below w.heap.size w wr
 there : ∀ j, j < 14 → ∃ v, wr.cell? ⟨w.heap.size, j, none⟩ = some v
 open_ : ∀ j, wr.frozen? ⟨w.heap.size, j, none⟩ = false
 here : ∀ j, j < (PickMath.cs (PickMath.ok l a b) k).length → wr.cell? ⟨w.heap.size, j, none⟩ = some (.int .i64 ((PickMath.cs (PickMath.ok l a b) k).getD j 0))
theorem PickRel.start (w : World) (l a b : Int) (c : Array Value) (t : TypeId) (hc : c.size = 14) : PickRel w l a b 0 (w.alloc (.cells c t)) :=
 ⟨(Below.refl _ _).alloc (Nat.le_refl _) _, fun j hj => ⟨c[j], by simp [World.cell?_alloc_new, hc, hj]⟩, fun j => by simp, fun j hj => by simp [PickMath.cs] at hj⟩
theorem PickRel.same {w : World} {l a b : Int} {k : Nat} {wr : World} (h : PickRel w l a b k wr) (hok : PickMath.ok l a b (k + 1) = false) : PickRel w l a b (k + 1) wr := by
 have e : PickMath.cs (PickMath.ok l a b) (k + 1) = PickMath.cs (PickMath.ok l a b) k := by simp [PickMath.cs, hok]
 exact ⟨h.below, h.there, h.open_, by rw [e]; exact h.here⟩
theorem PickRel.more {w : World} {l a b : Int} {k : Nat} {wr : World} (h : PickRel w l a b k wr) (hk : k < 14) (hok : PickMath.ok l a b (k + 1) = true) :
 PickRel w l a b (k + 1) (wr.setCell ⟨w.heap.size, (PickMath.cs (PickMath.ok l a b) k).length, none⟩ (.int .i64 ((k : Int) + 1))) := by
 have e : PickMath.cs (PickMath.ok l a b) (k + 1) = PickMath.cs (PickMath.ok l a b) k ++ [k + 1] := by simp [PickMath.cs, hok]
 have hl := PickMath.cs_len_le (PickMath.ok l a b) k;obtain ⟨v0, hv0⟩ := h.there (PickMath.cs (PickMath.ok l a b) k).length (by omega);refine ⟨h.below.setCell (Nat.le_refl _) _, fun j hj => ?_, fun j => by rw [World.frozen?_setCell]; exact h.open_ j, fun j hj => ?_⟩
 ·by_cases ej : j = (PickMath.cs (PickMath.ok l a b) k).length
  ·subst ej; exact ⟨_, World.cell?_setCell_same _ _ _ hv0⟩
  ·obtain ⟨v, hv⟩ := h.there j hj;exact ⟨v, by rw [World.cell?_setCell_other _ _ _ _ (by intro x; injection x with _ x _; omega)]; exact hv⟩
 ·rw [e] at hj ⊢
  by_cases ej : j = (PickMath.cs (PickMath.ok l a b) k).length
  ·subst ej; rw [World.cell?_setCell_same _ _ _ hv0]; simp
  ·have hj' : j < (PickMath.cs (PickMath.ok l a b) k).length := by simp at hj; omega
   rw [World.cell?_setCell_other _ _ _ _ (by intro x; injection x with _ x _; omega), h.here j hj'];simp [List.getElem?_append_left hj']
set_option maxHeartbeats 400000 in
theorem gpick_any (l a b d : Int) (w : World) :
 Calls Tryz.prog 155 #[.int .i64 l, .int .i64 a, .int .i64 b, .int .i64 d] w fun e w' => e = .returned (.int .i64 (PickMath.pick l a b d)) ∧ Below w.heap.size w w' := by
 have t1 := PickMath.tmod_lo d;have t2 := PickMath.tmod_hi d;have t3 := PickMath.dr_lo d;have t4 := PickMath.dr_hi d;have m1 := PickMath.many_lo l a b;have m2 := PickMath.many_hi l a b;go_enter Tryz.func155, Tryz.ntmps155
 go_wp2_with fail
 go_loopw [10, 11] (fun c t wr => ∃ k : Nat, k ≤ 14 ∧ t = .int .i64 ((k : Int) + 1) ∧ c = .int .i64 (PickMath.cs (PickMath.ok l a b) k).length ∧ PickRel w l a b k wr) (fun _ t _ => 15 - (intOf t).toNat)
 case atStart => exact ⟨0, by omega, rfl, rfl, PickRel.start _ _ _ _ _ _ rfl⟩
 case round =>
  obtain ⟨k, hk, rfl, rfl, hr⟩ := hrel;have hl := PickMath.cs_len_le (PickMath.ok l a b) k
  by_cases hlt : k < 14
  ·cases hok : PickMath.ok l a b (k + 1)
   ·have hs := hr.same hok;have hlen : Hid ((PickMath.cs (PickMath.ok l a b) (k + 1)).length = (PickMath.cs (PickMath.ok l a b) k).length) := PickMath.cs_same _ hok
    have hno : (k : Int) + 1 = l ∨ (k : Int) + 1 = a ∨ (k : Int) + 1 = b := by
     have : ¬ PickMath.ok l a b (k + 1) = true := by rw [hok]; decide
     rw [PickMath.ok_iff] at this; omega
    clear hok hr
    cases b1 : ((k : Int) + 1 != l) <;> cases b2 : ((k : Int) + 1 != a) <;> cases b3 : ((k : Int) + 1 != b)
    case true.true.true => rw [bne_iff_ne] at b1 b2 b3; omega
    all_goals
     clear hno;go_wp2
     go_roundw
     case rel => exact ⟨k + 1, by omega, by go_num, by rw [hlen.out], hs⟩
     case measure => simp [intOf]; omega
   ·have hs := hr.more hlt hok;have hlen : Hid ((PickMath.cs (PickMath.ok l a b) (k + 1)).length = (PickMath.cs (PickMath.ok l a b) k).length + 1) := PickMath.cs_more _ hok;obtain ⟨v0, hv0⟩ := hr.there (PickMath.cs (PickMath.ok l a b) k).length (by omega);have hf0 := hr.open_ (PickMath.cs (PickMath.ok l a b) k).length;obtain ⟨n1, n2, n3⟩ := (PickMath.ok_iff _ _ _ _).1 hok;have n1 : ((k : Int) + 1 != l) = true := by rw [bne_iff_ne]; omega
    have n2 : ((k : Int) + 1 != a) = true := by rw [bne_iff_ne]; omega
    have n3 : ((k : Int) + 1 != b) = true := by rw [bne_iff_ne]; omega
    clear hok;go_wp2
    go_roundw
    case rel => exact ⟨k + 1, by omega, by go_num, by rw [hlen.out]; go_num, hs⟩
    case measure => simp [intOf]; omega
  ·obtain rfl : k = 14 := by omega
   have hmod : ((PickMath.dr d).toNat % PickMath.many l a b : Nat) = (PickMath.dr d) % (PickMath.many l a b : Int) := by
    rw [Int.natCast_emod, Int.toNat_of_nonneg t3]
   have hlt2 : (PickMath.dr d).toNat % PickMath.many l a b < PickMath.many l a b := Nat.mod_lt _ (by omega);have hv := hr.here ((PickMath.dr d).toNat % PickMath.many l a b) hlt2;have hbl := hr.below;have hp : Hid (PickMath.pick l a b d = (PickMath.cs (PickMath.ok l a b) 14).getD ((PickMath.dr d).toNat % PickMath.many l a b) 0) := rfl;have hbd : 0 ≤ (PickMath.dr d) % (PickMath.many l a b : Int) := by rw [← hmod]; omega
   have hbd2 : (PickMath.dr d) % (PickMath.many l a b : Int) < 14 := by rw [← hmod]; omega
   have hmod2 : Hid (((PickMath.dr d) % (PickMath.many l a b : Int)).toNat = (PickMath.dr d).toNat % PickMath.many l a b) := by rw [← hmod]; rfl
   rw [← hmod2.out] at hv hp;clear hmod hlt2;have e : (PickMath.cs (PickMath.ok l a b) 14).length = PickMath.many l a b := rfl;rw [e];clear e hl;generalize (PickMath.cs (PickMath.ok l a b) 14).getD ((PickMath.dr d) % (PickMath.many l a b : Int)).toNat 0 = res at hv hp
   by_cases hneg : d.tmod 12012 < 0
   ·rw [← PickMath.tmod_neg hneg] at *;go_wp2;go_ret;exact ⟨ret_int (by rw [hp.out]), hbl⟩
   ·rw [← PickMath.tmod_pos hneg] at *;go_wp2;go_ret;exact ⟨ret_int (by rw [hp.out]), hbl⟩
structure CBox (w : World) (b : Nat) (st rest : Int) (a : Option Addr) (n cap : Nat) : Prop where
 lt : b < w.heap.size
 c0 : w.cell? ⟨b, 0, none⟩ = some (.int .i64 st)
 c1 : w.cell? ⟨b, 1, none⟩ = some (.int .i64 rest)
 c2 : w.cell? ⟨b, 2, none⟩ = some (.slice a n cap)
theorem CBox.alloc (w : World) (st rest : Int) (a : Option Addr) (n cap : Nat) (t : TypeId) : CBox (w.alloc (.cells #[.int .i64 st, .int .i64 rest, .slice a n cap] t)) w.heap.size st rest a n cap :=
 ⟨by simp, by simp, by simp, by simp⟩
theorem CBox.below {w w' : World} {b : Nat} {st rest : Int} {a : Option Addr} {n cap : Nat} (h : CBox w b st rest a n cap) {B : Nat} (hb : Below B w w') (hB : b < B) : CBox w' b st rest a n cap :=
 ⟨Nat.lt_of_lt_of_le h.lt hb.size, (hb.cell (p := ⟨b, 0, none⟩) hB).trans h.c0, (hb.cell (p := ⟨b, 1, none⟩) hB).trans h.c1, (hb.cell (p := ⟨b, 2, none⟩) hB).trans h.c2⟩
end Go.Proofs.YtjikemhmnkckcabGreat
