import Derived.Test.YtjikemhmnkckcabGreatJ6
import Derived.Test.YtjikemhmnkckcabGreatJ13
import Derived.Test.YtjikemhmnkckcabGreatJ11
namespace Go.Proofs.YtjikemhmnkckcabGreat
open Go.RowKit
attribute [local go_sem ↓] Go.wp_at_zero Go.wp_at_succ

set_option maxHeartbeats 400000 in
theorem num_any (e : Int) (w : World) : Calls Tryz.prog 22 #[.int .i64 e] w fun e' w' => e' = .returned (.int .i64 e) ∧ w = w' := by
  go_enter Tryz.func22, Tryz.ntmps22
  go_wp2
  go_ret
  exact ⟨rfl, rfl⟩

def WFoot (q ph : Nat) (gc : Value) (bb : Nat) (G : GSt) (pr : Nat) (vc vl vm : Value) (vp : Value) (b : Nat) : Prop := b = q ∨ GFoot ph gc bb G b ∨ RFoot pr vc vl vm b ∨ vp.ownBlock = some b

end Go.Proofs.YtjikemhmnkckcabGreat
namespace Go.Proofs.YtjikemhmnkckcabGreat
open Go.RowKit

theorem hide {p : Prop} (h : p) : Hid p := h
theorem unhide {p : Prop} (h : Hid p) : p := h

end Go.Proofs.YtjikemhmnkckcabGreat
namespace Go.Proofs.YtjikemhmnkckcabGreat
open Go.RowKit

/-- the pointer that a step speaks of -/
def ptrOf (ps : List Int) (i off : Int) : Int := if i < 0 ∨ ps.length = 0 then off else wrap64 (ps.getD (i % ps.length).toNat 0 + off)
theorem wrap64_bd (x : Int) : -9223372036854775808 ≤ wrap64 x ∧ wrap64 x ≤ 9223372036854775807 := by unfold wrap64; omega
theorem ptrOf_bd (ps : List Int) (i off : Int) (h : off ≤ 9223372036854775807) : ptrOf ps i off ≤ 9223372036854775807 := by
  unfold ptrOf; split
  · exact h
  · exact (wrap64_bd _).2

theorem info_int : (Tryz.prog.info? 3).map (fun i => (i.zero, i.size, i.bytes)) = some (some (.int .i64 0), 1, 8) := by kernel_rfl

end Go.Proofs.YtjikemhmnkckcabGreat
/- The document's Move. -/
namespace Go.Proofs.YtjikemhmnkckcabGreat
open Go.RowKit

def RSt.moves (R : RSt) (a b : Int) : Nat → RSt
  | 0 => R
  | i + 1 => (R.moves a b i).mark (a + i) (R.byte (b + i))
theorem RSt.moves_same (R : RSt) (a b : Int) (i : Nat) : (R.moves a b i).st = R.st ∧ (R.moves a b i).rest = R.rest ∧ (R.moves a b i).cls = R.cls ∧ (R.moves a b i).log = R.log ∧ (R.moves a b i).marks.length = R.marks.length + i := by
  induction i with
  | zero => exact ⟨rfl, rfl, rfl, rfl, rfl⟩
  | succ i ih => exact ⟨ih.1, ih.2.1, ih.2.2.1, ih.2.2.2.1, by show ((R.moves a b i).marks ++ [(a + i, R.byte (b + i), ((R.moves a b i).log.length : Int))]).length = _; rw [List.length_append, ih.2.2.2.2]; rfl⟩
def RSt.moveErr (R : RSt) (to from_ n : Int) : Int := if (R.access from_ n).1 ≠ 0 then (R.access from_ n).1 else (R.access to n).1
def RSt.move (R : RSt) (to from_ n : Int) : RSt := if R.moveErr to from_ n = 0 then R.moves (to % 72057594037927936) (from_ % 72057594037927936) n.toNat else R

theorem Marked.from_ {w w1 wr : World} {p : Nat} {vc vl vm vm' : Value} {R' : RSt} (hb : Below w.heap.size w w1) (h : Marked w1 p vc vl vm wr vm' R') : Marked w p vc vl vm wr vm' R' :=
  ⟨h.rep, (Kept.of_below hb _).trans h.kept, fun g hg => (h.new g hg).imp id (fun x => Nat.le_trans hb.size x)⟩

/-- the bytes that are held -/
structure Held (w : World) (R : RSt) (b : Int) (m : Nat) (hv : Value) (wr : World) : Prop where
  bel : Below w.heap.size w wr
  row : wr.ownsRow 0 3 1 hv m ((List.range m).map fun j : Nat => Value.int .i64 (R.byte (b + (j : Int))))
  lo : ∀ g, hv.ownBlock = some g → w.heap.size ≤ g
theorem Held.grow {w wr w2 : World} {R : RSt} {b : Int} {m : Nat} {hv : Value} (h : Held w R b m hv wr) (hb2 : Below wr.heap.size wr w2) {cs : Array Value} {t : TypeId} {w7 : World} {gg cap : Nat}
    (hown : w7.ownsRow 0 3 1 (.slice (some ⟨gg, 0, none⟩) (m + 1) cap) (m + 1) (((List.range m).map fun j : Nat => Value.int .i64 (R.byte (b + (j : Int)))) ++ [.int .i64 (R.byte (b + m))]))
    (hgrow : (w2.alloc (.cells cs t)).grownBy w7 hv.ownBlock) (hat : hv.ownBlock = some gg ∨ gg = w2.heap.size + 1) : Held w R b (m + 1) (.slice (some ⟨gg, 0, none⟩) (m + 1) cap) w7 := by
  have h1 := h.bel.size
  have h2 := hb2.size
  have h3 := hgrow.size
  rw [World.size_alloc] at h3
  refine ⟨⟨hgrow.os.trans (hb2.os.trans h.bel.os), hgrow.tape.trans (hb2.tape.trans h.bel.tape), hgrow.output.trans (hb2.output.trans h.bel.output), by omega, fun k hk => ?_⟩, ?_, fun g hg => ?_⟩
  · rw [hgrow.block k (by rw [World.size_alloc]; omega) (fun e => by have := h.lo k e.symm; omega)]
    exact (Below.heap_alloc w2 _ k (by omega)).trans ((hb2.block k (by omega)).trans (h.bel.block k hk))
  · rw [List.range_succ, List.map_append]; exact hown
  · simp [Value.ownBlock] at hg
    subst hg
    rcases hat with e | e
    · exact h.lo _ e
    · omega

set_option maxRecDepth 100000 in
set_option maxHeartbeats 1600000 in
theorem rmove_any (p : Nat) (vc vl vm : Value) (R : RSt) (to from_ n : Int) (w : World) (h : RRep w p vc vl vm R) (ho : ROk R) (t1 : to ≤ 9223372036854775807) (f1 : from_ ≤ 9223372036854775807) (hroom : (R.marks.length + 65536) * 24 ≤ 140737488355328) :
    Calls Tryz.prog 66 #[.pointer (some ⟨p, 0, none⟩), .int .i64 to, .int .i64 from_, .int .i64 n] w fun e w' => ∃ vm', e = .returned (.int .i64 (R.moveErr to from_ n)) ∧ Marked w p vc vl vm w' vm' (R.move to from_ n) := by
  have HR := hide2 h
  have HO := hide2 ho
  have hp := h.blk.lt
  have HVM : Hid (∀ g, vm.ownBlock = some g → g < w.heap.size) := fun g hg => row_lt h.marks hg
  obtain ⟨i0, hi0, hz0, hz1, hz2⟩ := info_parts info_int
  clear h ho
  by_cases hf : (R.access from_ n).1 = 0
  · by_cases ht : (R.access to n).1 = 0
    · have HE : Hid (R.moveErr to from_ n = 0) := (if_neg (by simp [hf])).trans ht
      have HF : Hid (R.move to from_ n = R.moves (to % 72057594037927936) (from_ % 72057594037927936) n.toNat) := if_pos HE.out
      have HA := hide2 hf
      have HB := hide2 ht
      have hn : 0 ≤ n ∧ n ≤ 65536 := by
        unfold RSt.access at hf
        by_cases ha : n < 0 ∨ 65536 < n
        · rw [if_pos ha] at hf; simp at hf
        · omega
      have HTF : Hid (0 < n → 0 ≤ from_ ∧ from_ % 72057594037927936 ≤ 65535 ∧ 0 ≤ to ∧ to % 72057594037927936 ≤ 65535) := fun h0 => by
        have a := (tame_iff from_).1 (access_ok hf h0).1
        have b := (tame_iff to).1 (access_ok ht h0).1
        exact ⟨a.1, a.2.2, b.1, b.2.2⟩
      obtain ⟨n0, n1⟩ := hn
      clear hf ht
      go_enter Tryz.func66, Tryz.ntmps66
      go_wp2_with fail
      refine (raccess_any p vc vl vm R from_ n w HR.out HO.out f1).mono ?_
      rw [HA.out]
      rintro e1 w1 ⟨rfl, hb1⟩
      go_wp2_with fail
      refine (raccess_any p vc vl vm R to n w1 (HR.out.below hb1) HO.out t1).mono ?_
      rw [HB.out]
      rintro e1 w2 ⟨rfl, hb2'⟩
      have hb2 : Below w.heap.size w w2 := hb1.trans (hb2'.mono hb1.size)
      clear hb1 hb2'
      go_wp2
      go_loopw [11, 12] (fun hv i wr => ∃ m : Nat, (m : Int) ≤ n ∧ i = .int .i64 (m : Int) ∧ Held w R (from_ % 72057594037927936) m hv wr) (fun _ i _ => (n - intOf i).toNat)
      case atStart => exact ⟨0, by omega, rfl, hb2, World.ownsRow_nil _ _ _ _, nofun⟩
      case round =>
        obtain ⟨m, hm, rfl, hH⟩ := hrel
        have HH := hide2 hH
        clear hH
        by_cases hlt : (m : Int) < n
        · obtain ⟨f0, fa, _, _⟩ := HTF.out (by omega)
          have fa0 : 0 ≤ from_ % 72057594037927936 := by omega
          have m0 : (0 : Int) ≤ (m : Int) := by omega
          have HRr := hide2 (HR.out.below HH.out.bel)
          go_wp2_with fail
          refine (rbyte_any p vc vl vm R (from_ % 72057594037927936 + m) wr HRr.out HO.out).mono ?_
          rintro e2 w3 ⟨rfl, hb3⟩
          have hrow : Hid (w3.ownsRow 0 3 1 u11 m ((List.range m).map fun j : Nat => Value.int .i64 (R.byte (from_ % 72057594037927936 + (j : Int))))) := row_below HH.out.row hb3 (fun g hg => row_lt HH.out.row hg)
          obtain ⟨bt, hbt⟩ : ∃ bt, bt = R.byte (from_ % 72057594037927936 + m) := ⟨_, rfl⟩
          have HBT := hide2 hbt
          rw [← hbt]
          clear hbt
          go_wp2_with (at_builtin; refine wpList_append_lies _ rfl _ _ _ rfl 0 3 i0 _ 1 8 Tryz.underlying22 hi0 hz0 hz1 hz2 rfl (by omega) u11 m _ rfl (hrow.out.alloc _) ⟨w3.heap.size, 0, none⟩ 1 1 [.int .i64 bt] rfl rfl (World.news_of_block (cs := #[.int .i64 bt]) (t := 3) (fr := (0, 0)) (heap_alloc_new w3 _)) (by simp [Value.oneCell']) (by omega) (by simp [maxLen]; omega) (by omega) (by simp) (w3.heap.size + 1) (by simp) ?_; intro gg cap2 w7 hown hgrow hat hlt7)
          go_roundw
          case rel => exact ⟨m + 1, by omega, by go_num, HH.out.grow hb3 (by rw [← HBT.out]; exact hown) hgrow hat⟩
          case measure => simp [intOf]; omega
        · obtain rfl : n = (m : Int) := by omega
          obtain ⟨wo, rfl⟩ : ∃ wo, wo = wr := ⟨wr, rfl⟩
          obtain ⟨ah, caph, hva, hcaph, hmaxh, hrowh⟩ := row_open HH.out.row
          subst hva
          unfold maxLen at hmaxh
          have HRH := hide2 hrowh
          have HB1 := hide2 HH.out.bel
          have HLO := hide2 HH.out.lo
          clear hrowh
          go_wp2
          go_loopw [14] (fun i wx => ∃ (k : Nat) (vmr : Value), k ≤ m ∧ i = .int .i64 (k : Int) ∧ Marked wo p vc vl vm wx vmr (R.moves (to % 72057594037927936) (from_ % 72057594037927936) k)) (fun i _ => ((m : Int) - intOf i).toNat)
          case atStart => exact ⟨0, vm, by omega, rfl, Marked.start (HR.out.below HB1.out) (Below.refl _ _)⟩
          case round =>
            obtain ⟨k, vmr, hk, rfl, hM⟩ := hrel
            have HM := hide2 hM
            clear hM
            by_cases hlk : k < m
            · obtain ⟨_, _, t0, ta⟩ := HTF.out (by omega)
              have ta0 : 0 ≤ to % 72057594037927936 := by omega
              have k0 : (0 : Int) ≤ (k : Int) := by omega
              have k1 : (k : Int) < (m : Int) := by omega
              obtain ⟨g, rfl, hgl, hcell, _⟩ := HRH.out (by omega)
              have hgw : w.heap.size ≤ g := HLO.out g rfl
              have ck := hcell k (.int .i64 (R.byte (from_ % 72057594037927936 + (k : Int)))) (by simp [hlk])
              have cx : wr.cell? ⟨g, k, none⟩ = some (.int .i64 (R.byte (from_ % 72057594037927936 + (k : Int)))) := by
                rw [World.cell?_of_block (w := wo) (HM.out.kept.block g hgl (fun x => by
                  rcases x with x | x
                  · omega
                  · have := HVM.out g x; omega))]
                exact ck
              have hS : Hid (R.moves (to % 72057594037927936) (from_ % 72057594037927936) (k + 1) = (R.moves (to % 72057594037927936) (from_ % 72057594037927936) k).mark (to % 72057594037927936 + k) (R.byte (from_ % 72057594037927936 + k))) := rfl
              have hl := (R.moves_same (to % 72057594037927936) (from_ % 72057594037927936) k).2.2.2.2
              have hrm : ((R.moves (to % 72057594037927936) (from_ % 72057594037927936) k).marks.length + 1) * 24 ≤ 140737488355328 := by omega
              clear hcell ck hl HRH
              generalize R.moves (to % 72057594037927936) (from_ % 72057594037927936) k = Rm at *
              generalize R.byte (from_ % 72057594037927936 + (k : Int)) = bt at *
              go_wp2_with (go_at_call 19; refine (rmark_any p vc vl vmr Rm (to % 72057594037927936 + k) bt wr HM.out.rep hrm).mono ?_; rintro e2 w5 ⟨vm2, rfl, hR2, hk2, hn2⟩)
              go_roundw
              case rel => exact ⟨k + 1, vm2, by omega, by go_num, by rw [hS.out]; exact HM.out.step hR2 hk2 hn2⟩
              case measure => simp [intOf]; omega
            · obtain rfl : k = m := by omega
              go_wp2
              go_ret
              exact ⟨vmr, by rw [HE.out]; rfl, by rw [HF.out]; exact HM.out.from_ HB1.out⟩
    · have HE : Hid (R.moveErr to from_ n = (R.access to n).1) := if_neg (by simp [hf])
      have HF : Hid (R.move to from_ n = R) := if_neg (by rw [HE.out]; exact ht)
      have HA := hide2 hf
      have hab : ((R.access to n).1 != 0) = true := by simp [ht]
      clear hf ht
      go_enter Tryz.func66, Tryz.ntmps66
      go_wp2_with fail
      refine (raccess_any p vc vl vm R from_ n w HR.out HO.out f1).mono ?_
      rw [HA.out]
      rintro e1 w1 ⟨rfl, hb1⟩
      go_wp2_with fail
      refine (raccess_any p vc vl vm R to n w1 (HR.out.below hb1) HO.out t1).mono ?_
      rintro e1 w2 ⟨rfl, hb2'⟩
      have hb2 : Below w.heap.size w w2 := hb1.trans (hb2'.mono hb1.size)
      go_wp2
      go_ret
      exact ⟨vm, by rw [HE.out]; rfl, by rw [HF.out]; exact Marked.start HR.out hb2⟩
  · have HE : Hid (R.moveErr to from_ n = (R.access from_ n).1) := if_pos hf
    have HF : Hid (R.move to from_ n = R) := if_neg (by rw [HE.out]; exact hf)
    have hab : ((R.access from_ n).1 != 0) = true := by simp [hf]
    clear hf
    go_enter Tryz.func66, Tryz.ntmps66
    go_wp2_with (go_at_call 95; refine (raccess_any p vc vl vm R from_ n w HR.out HO.out f1).mono ?_; rintro e1 w1 ⟨rfl, hb1⟩)
    go_ret
    exact ⟨vm, by rw [HE.out]; rfl, by rw [HF.out]; exact Marked.start HR.out hb1⟩
end Go.Proofs.YtjikemhmnkckcabGreat
