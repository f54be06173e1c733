import Derived.Test.YtjikemhmnkckcaaJ36
/- The document's Usable and Load. -/
namespace Go.Proofs.Ytjikemhmnkckcaa
open Go.RowKit

def RSt.usable (R : RSt) (q : Int) : Int × Int :=
  if (Ref.block R.st R.cls R.log q).2.2 ≠ 0 then (0, (Ref.block R.st R.cls R.log q).2.2)
  else (16 * (R.log.getD (Ref.given R.log (Ref.block R.st R.cls R.log q).1 (Ref.block R.st R.cls R.log q).2.1).toNat Ref.Ev.no).size, 0)
namespace Ref
/-- the unit, the number that were read after i bytes -/
def ldU : Nat → Int
  | 0 => 1
  | i + 1 => wrap64 (ldU i * 256)
def ldV (byte : Int → Int) (a : Int) : Nat → Int
  | 0 => 0
  | i + 1 => wrap64 (ldV byte a i + wrap64 (byte (a + i) * ldU i))
end Ref
def RSt.load (R : RSt) (q n : Int) : Int × Int :=
  if Ref.shapeB n = false then (0, 2) else if (R.access q n).1 ≠ 0 then (0, (R.access q n).1) else (Ref.ldV R.byte (q % 72057594037927936) n.toNat, 0)

theorem access_ok {R : RSt} {q n : Int} (h : (R.access q n).1 = 0) (hn : 0 < n) : Ref.tameB q = true ∧ n ≤ 65536 := by
  unfold RSt.access at h
  by_cases ha : n < 0 ∨ 65536 < n
  · rw [if_pos ha] at h; simp at h
  · rw [if_neg ha, if_neg (by omega)] at h
    cases ht : Ref.tameB q
    · rw [ht] at h; simp at h
    · exact ⟨rfl, by omega⟩

set_option maxRecDepth 100000 in
set_option maxHeartbeats 1600000 in
theorem rusable_any (p : Nat) (vc vl vm : Value) (R : RSt) (q : Int) (w : World) (h : RRep w p vc vl vm R) (ho : ROk R) (q1 : q ≤ 9223372036854775807) :
    Calls Try.prog 110 #[.pointer (some ⟨p, 0, none⟩), .int .i64 q] w fun e w' => e = .returned (.tuple #[.int .i64 (R.usable q).1, .int .i64 (R.usable q).2]) ∧ Below w.heap.size w w' := by
  have HR := hide2 h
  have HO := hide2 ho
  rcases block_cases R.st R.cls R.log q with he | ⟨k, s, he, hk, hsl, h3⟩
  · have HF : Hid (R.usable q = (0, (Ref.block R.st R.cls R.log q).2.2)) := if_pos he
    have heb : ((Ref.block R.st R.cls R.log q).2.2 != 0) = true := by simp [he]
    clear h ho he
    go_enter Try.func110, Try.ntmps110
    go_wp2_with (go_at_call 120; refine (rblock_any p vc vl vm R q w HR.out HO.out q1).mono ?_; rintro e1 w1 ⟨rfl, hb1⟩)
    go_ret2
    exact ⟨by rw [HF.out]; rfl, hb1⟩
  · have hgv : 0 ≤ Ref.given R.log k s := by
      unfold Ref.state at h3; split at h3
      · omega
      · omega
    have g2 := Ref.given_hi R.log k s
    have z0 := ho.size0 (Ref.given R.log k s).toNat
    have z1 := ho.size1 (Ref.given R.log k s).toNat
    have HF : Hid (R.usable q = (16 * (R.log.getD (Ref.given R.log k s).toNat Ref.Ev.no).size, 0)) := by
      show _ = _
      unfold RSt.usable
      rw [he, if_neg (by simp)]
    have HE := hide2 he
    have hp := h.blk.lt
    have c3 := h.blk.cell (j := 3) rfl
    obtain ⟨al, capl, rfl, hcapl, hmaxl, hrow⟩ := row_open h.log
    unfold maxLen at hmaxl
    obtain ⟨g, rfl, hgl, hcell, _⟩ := hrow (by omega)
    obtain ⟨_, _, _, _, d4, _⟩ := ev_cells hcell (Ref.given R.log k s).toNat (by omega)
    have hgn : (((Ref.given R.log k s).toNat : Nat) : Int) = Ref.given R.log k s := by omega
    have HGV : Hid (Ref.given R.log k s = Ref.given R.log k s) := rfl
    generalize R.log.getD (Ref.given R.log k s).toNat Ref.Ev.no = ev at *
    clear h ho he hcell hrow hsl h3
    go_enter Try.func110, Try.ntmps110
    go_wp2_with fail
    refine (rblock_any p vc _ vm R q w HR.out HO.out q1).mono ?_
    rw [HE.out]
    rintro e1 w1 ⟨rfl, hb1⟩
    go_wp2_with fail
    refine (given_any p vc _ vm R k s w1 (HR.out.below hb1)).mono ?_
    rintro e1 w2 ⟨rfl, hb2'⟩
    have hb2 : Below w.heap.size w w2 := hb1.trans (hb2'.mono hb1.size)
    have c3' := (hb2.cell (p := ⟨p, 3, none⟩) hp).trans c3
    have d4' := (hb2.cell (p := ⟨g, (Ref.given R.log k s).toNat * 6 + 4, none⟩) hgl).trans d4
    clear c3 d4 hb1 hb2'
    generalize Ref.given R.log k s = gv at *
    go_wp2
    go_ret2
    exact ⟨by rw [HF.out]; rfl, hb2⟩

set_option maxRecDepth 100000 in
set_option maxHeartbeats 1600000 in
theorem rload_any (p : Nat) (vc vl vm : Value) (R : RSt) (q n : Int) (w : World) (h : RRep w p vc vl vm R) (ho : ROk R) (q1 : q ≤ 9223372036854775807) :
    Calls Try.prog 83 #[.pointer (some ⟨p, 0, none⟩), .int .i64 q, .int .i64 n] w fun e w' => e = .returned (.tuple #[.int .i64 (R.load q n).1, .int .i64 (R.load q n).2]) ∧ Below w.heap.size w w' := by
  have HR := hide2 h
  have HO := hide2 ho
  clear h ho
  cases hsh : Ref.shapeB n
  · have HF : Hid (R.load q n = (0, 2)) := if_pos hsh
    go_enter Try.func83, Try.ntmps83
    go_wp2_with (go_at_call 111; refine (shape_any n w).mono ?_; rw [hsh]; rintro e1 w1 ⟨rfl, rfl⟩)
    go_ret2
    exact ⟨by rw [HF.out]; rfl, Below.refl _ _⟩
  · have HSH := hide2 hsh
    by_cases ha : (R.access q n).1 = 0
    · have hn := shape_of hsh
      have n0 : 0 < n := by omega
      have n1 : n ≤ 8 := by omega
      have HF : Hid (R.load q n = (Ref.ldV R.byte (q % 72057594037927936) n.toNat, 0)) := (if_neg (by simp [hsh])).trans (if_neg (by simp [ha]))
      have htm := (tame_iff q).1 (access_ok ha n0).1
      have HA := hide2 ha
      have q0 : 0 ≤ q := htm.1
      have a0 : 0 ≤ q % 72057594037927936 := by omega
      have a1 : q % 72057594037927936 ≤ 65535 := htm.2.2
      clear ha hn htm hsh
      go_enter Try.func83, Try.ntmps83
      go_wp2_with fail
      refine (shape_any n w).mono ?_
      rw [HSH.out]
      rintro e1 w1 ⟨rfl, rfl⟩
      go_wp2_with fail
      refine (raccess_any p vc vl vm R q n w HR.out HO.out q1).mono ?_
      rw [HA.out]
      rintro e1 w1 ⟨rfl, hb1⟩
      go_wp2
      go_loopw [11, 12, 13] (fun v u i wr => ∃ m : Nat, (m : Int) ≤ n ∧ i = .int .i64 (m : Int) ∧ v = .int .i64 (Ref.ldV R.byte (q % 72057594037927936) m) ∧ u = .int .i64 (Ref.ldU m) ∧ Below w.heap.size w wr) (fun _ _ i _ => (n - intOf i).toNat)
      case atStart => exact ⟨0, by omega, rfl, rfl, rfl, hb1⟩
      case round =>
        obtain ⟨m, hm, rfl, rfl, rfl, hb⟩ := hrel
        have HRr := hide2 (HR.out.below hb)
        by_cases hlt : (m : Int) < n
        · have hV : Hid (Ref.ldV R.byte (q % 72057594037927936) (m + 1) = wrap64 (Ref.ldV R.byte (q % 72057594037927936) m + wrap64 (R.byte (q % 72057594037927936 + m) * Ref.ldU m))) := rfl
          have hU : Hid (Ref.ldU (m + 1) = wrap64 (Ref.ldU m * 256)) := rfl
          have HB : Hid (R.byte (q % 72057594037927936 + m) = R.byte (q % 72057594037927936 + m)) := rfl
          have m0 : (0 : Int) ≤ (m : Int) := by omega
          generalize Ref.ldV R.byte (q % 72057594037927936) m = vv at *
          generalize Ref.ldU m = uu at *
          go_wp2_with (go_at_call 113; refine (rbyte_any p vc vl vm R (q % 72057594037927936 + m) wr HRr.out HO.out).mono ?_; rintro e2 w2 ⟨rfl, hb2⟩)
          go_roundw
          case rel => exact ⟨m + 1, by omega, by go_num, by rw [hV.out], by rw [hU.out], hb.trans (hb2.mono hb.size)⟩
          case measure => simp [intOf]; omega
        · obtain rfl : n = (m : Int) := by omega
          go_wp2
          go_ret2
          exact ⟨by rw [HF.out]; rfl, hb⟩
    · have HF : Hid (R.load q n = (0, (R.access q n).1)) := (if_neg (by simp [hsh])).trans (if_pos ha)
      have hab : ((R.access q n).1 != 0) = true := by simp [ha]
      clear ha hsh
      go_enter Try.func83, Try.ntmps83
      go_wp2_with fail
      refine (shape_any n w).mono ?_
      rw [HSH.out]
      rintro e1 w1 ⟨rfl, rfl⟩
      go_wp2_with (go_at_call 112; refine (raccess_any p vc vl vm R q n w HR.out HO.out q1).mono ?_; rintro e1 w1 ⟨rfl, hb1⟩)
      go_ret2
      exact ⟨by rw [HF.out]; rfl, hb1⟩
end Go.Proofs.Ytjikemhmnkckcaa
/- The document's Store. -/
namespace Go.Proofs.Ytjikemhmnkckcaa
open Go.RowKit

namespace Ref
/-- what is left of the value after i bytes -/
def stV (value : Int) : Nat → Int
  | 0 => value % 18446744073709551616
  | i + 1 => stV value i / 256
theorem stV_bd (value : Int) (i : Nat) : 0 ≤ stV value i ∧ stV value i ≤ 18446744073709551615 := by
  induction i with
  | zero => simp only [stV]; omega
  | succ i ih => simp only [stV]; omega
end Ref
def RSt.stores (R : RSt) (a value : Int) : Nat → RSt
  | 0 => R
  | i + 1 => (R.stores a value i).mark (a + i) (Ref.stV value i % 256)
theorem RSt.stores_same (R : RSt) (a value : Int) (i : Nat) : (R.stores a value i).st = R.st ∧ (R.stores a value i).rest = R.rest ∧ (R.stores a value i).cls = R.cls ∧ (R.stores a value i).log = R.log ∧ (R.stores a value i).marks.length = R.marks.length + i := by
  induction i with
  | zero => exact ⟨rfl, rfl, rfl, rfl, rfl⟩
  | succ i ih => exact ⟨ih.1, ih.2.1, ih.2.2.1, ih.2.2.2.1, by show ((R.stores a value i).marks ++ [(a + i, Ref.stV value i % 256, ((R.stores a value i).log.length : Int))]).length = _; rw [List.length_append, ih.2.2.2.2]; rfl⟩
def RSt.storeErr (R : RSt) (q n : Int) : Int := if Ref.shapeB n = false then 2 else (R.access q n).1
def RSt.store (R : RSt) (q n value : Int) : RSt := if R.storeErr q n = 0 then R.stores (q % 72057594037927936) value n.toNat else R

/-- marks were written: the heap's block and the list of marks alone were touched -/
structure Marked (w : World) (p : Nat) (vc vl vm : Value) (wr : World) (vm' : Value) (R' : RSt) : Prop where
  rep : RRep wr p vc vl vm' R'
  kept : Kept w wr (fun x => x = p ∨ vm.ownBlock = some x)
  new : NewBlk vm vm' w
theorem Marked.start {w wr : World} {p : Nat} {vc vl vm : Value} {R : RSt} (h : RRep w p vc vl vm R) (hb : Below w.heap.size w wr) : Marked w p vc vl vm wr vm R :=
  ⟨h.below hb, Kept.of_below hb _, fun _ hg => .inl hg⟩
theorem Marked.below {w wr w' : World} {p : Nat} {vc vl vm vm' : Value} {R' : RSt} (h : Marked w p vc vl vm wr vm' R') (hb : Below wr.heap.size wr w') : Marked w p vc vl vm w' vm' R' :=
  ⟨h.rep.below hb, h.kept.trans (Kept.of_below hb _), h.new⟩
theorem Marked.step {w wr w' : World} {p : Nat} {vc vl vm vm' vm'' : Value} {R' R'' : RSt} (h : Marked w p vc vl vm wr vm' R') (hR : RRep w' p vc vl vm'' R'') (hk : Kept wr w' (fun x => x = p ∨ vm'.ownBlock = some x)) (hn : NewBlk vm' vm'' wr) : Marked w p vc vl vm w' vm'' R'' := by
  refine ⟨hR, ⟨hk.os.trans h.kept.os, hk.tape.trans h.kept.tape, hk.output.trans h.kept.output, Nat.le_trans h.kept.size hk.size, fun k hlt hs => ?_⟩, fun g hg => ?_⟩
  · refine (hk.block k (Nat.lt_of_lt_of_le hlt h.kept.size) (fun x => ?_)).trans (h.kept.block k hlt hs)
    rcases x with x | x
    · exact hs (.inl x)
    · rcases h.new k x with x | x
      · exact hs (.inr x)
      · omega
  · rcases hn g hg with x | x
    · exact h.new g x
    · exact .inr (Nat.le_trans h.kept.size x)

set_option maxRecDepth 100000 in
set_option maxHeartbeats 1600000 in
theorem rstore_any (p : Nat) (vc vl vm : Value) (R : RSt) (q n value : Int) (w : World) (h : RRep w p vc vl vm R) (ho : ROk R) (q1 : q ≤ 9223372036854775807) (hroom : (R.marks.length + 8) * 24 ≤ 140737488355328) :
    Calls Try.prog 85 #[.pointer (some ⟨p, 0, none⟩), .int .i64 q, .int .i64 n, .int .i64 value] w fun e w' => ∃ vm', e = .returned (.int .i64 (R.storeErr q n)) ∧ Marked w p vc vl vm w' vm' (R.store q n value) := by
  have HR := hide2 h
  have HO := hide2 ho
  clear h ho
  cases hsh : Ref.shapeB n
  · have HE : Hid (R.storeErr q n = 2) := if_pos hsh
    have HF : Hid (R.store q n value = R) := if_neg (by rw [HE.out]; decide)
    go_enter Try.func85, Try.ntmps85
    go_wp2_with (go_at_call 111; refine (shape_any n w).mono ?_; rw [hsh]; rintro e1 w1 ⟨rfl, rfl⟩)
    go_ret
    exact ⟨vm, by rw [HE.out]; rfl, by rw [HF.out]; exact Marked.start HR.out (Below.refl _ _)⟩
  · have HSH := hide2 hsh
    have HE : Hid (R.storeErr q n = (R.access q n).1) := if_neg (by simp [hsh])
    by_cases ha : (R.access q n).1 = 0
    · have hn := shape_of hsh
      have n0 : 0 < n := by omega
      have n1 : n ≤ 8 := by omega
      have HF : Hid (R.store q n value = R.stores (q % 72057594037927936) value n.toNat) := if_pos (by rw [HE.out, ha])
      have htm := (tame_iff q).1 (access_ok ha n0).1
      have HA := hide2 ha
      have q0 : 0 ≤ q := htm.1
      have a0 : 0 ≤ q % 72057594037927936 := by omega
      have a1 : q % 72057594037927936 ≤ 65535 := htm.2.2
      have HV0 : Hid (Ref.stV value 0 = value % 18446744073709551616) := rfl
      clear ha hn htm hsh
      go_enter Try.func85, Try.ntmps85
      go_wp2_with fail
      refine (shape_any n w).mono ?_
      rw [HSH.out]
      rintro e1 w1 ⟨rfl, rfl⟩
      go_wp2_with fail
      refine (raccess_any p vc vl vm R q n w HR.out HO.out q1).mono ?_
      rw [HA.out]
      rintro e1 w1 ⟨rfl, hb1⟩
      go_wp2
      go_loopw [12, 13] (fun v i wr => ∃ (m : Nat) (vmr : Value), (m : Int) ≤ n ∧ i = .int .i64 (m : Int) ∧ v = .int .u64 (Ref.stV value m) ∧ Marked w p vc vl vm wr vmr (R.stores (q % 72057594037927936) value m)) (fun _ i _ => (n - intOf i).toNat)
      case atStart => exact ⟨0, vm, by omega, rfl, rfl, Marked.start HR.out hb1⟩
      case round =>
        obtain ⟨m, vmr, hm, rfl, rfl, hM⟩ := hrel
        have HM := hide2 hM
        clear hM
        by_cases hlt : (m : Int) < n
        · have hV : Hid (Ref.stV value (m + 1) = Ref.stV value m / 256) := rfl
          have hS : Hid (R.stores (q % 72057594037927936) value (m + 1) = (R.stores (q % 72057594037927936) value m).mark (q % 72057594037927936 + m) (Ref.stV value m % 256)) := rfl
          have hl := (R.stores_same (q % 72057594037927936) value m).2.2.2.2
          have hv := Ref.stV_bd value m
          have v0 := hv.1
          have v1 := hv.2
          have m0 : (0 : Int) ≤ (m : Int) := by omega
          have hrm : ((R.stores (q % 72057594037927936) value m).marks.length + 1) * 24 ≤ 140737488355328 := by omega
          clear hv hl
          generalize Ref.stV value m = vv at *
          generalize R.stores (q % 72057594037927936) value m = Rm at *
          go_wp2_with (go_at_call 115; refine (rmark_any p vc vl vmr Rm (q % 72057594037927936 + m) (vv % 256) wr HM.out.rep hrm).mono ?_; rintro e2 w2 ⟨vm2, rfl, hR2, hk2, hn2⟩)
          go_roundw
          case rel => exact ⟨m + 1, vm2, by omega, by go_num, by rw [hV.out], by rw [hS.out]; exact HM.out.step hR2 hk2 hn2⟩
          case measure => simp [intOf]; omega
        · obtain rfl : n = (m : Int) := by omega
          go_wp2
          go_ret
          exact ⟨by rw [HE.out, HA.out]; rfl, vmr, by rw [HF.out]; exact HM.out⟩
    · have HF : Hid (R.store q n value = R) := if_neg (by rw [HE.out]; exact ha)
      have hab : ((R.access q n).1 != 0) = true := by simp [ha]
      clear ha hsh
      go_enter Try.func85, Try.ntmps85
      go_wp2_with fail
      refine (shape_any n w).mono ?_
      rw [HSH.out]
      rintro e1 w1 ⟨rfl, rfl⟩
      go_wp2_with (go_at_call 112; refine (raccess_any p vc vl vm R q n w HR.out HO.out q1).mono ?_; rintro e1 w1 ⟨rfl, hb1⟩)
      go_ret
      exact ⟨vm, by rw [HE.out]; rfl, by rw [HF.out]; exact Marked.start HR.out hb1⟩
end Go.Proofs.Ytjikemhmnkckcaa
