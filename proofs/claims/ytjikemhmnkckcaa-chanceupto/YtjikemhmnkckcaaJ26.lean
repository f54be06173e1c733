import Derived.Test.YtjikemhmnkckcaaJ25
import Derived.Test.YtjikemhmnkckcaaJ21
/- The document's Move. -/
namespace Go.Proofs.Ytjikemhmnkckcaa
open Go.RowKit

def RSt.moves (R : RSt) (a b : Int) : Nat → RSt
  | 0 => R
  | i + 1 => (R.moves a b i).mark (a + i) (R.byte (b + i))
theorem RSt.moves_same (R : RSt) (a b : Int) (i : Nat) : (R.moves a b i).st = R.st ∧ (R.moves a b i).rest = R.rest ∧ (R.moves a b i).cls = R.cls ∧ (R.moves a b i).log = R.log ∧ (R.moves a b i).marks.length = R.marks.length + i := by
  induction i with
  | zero => exact ⟨rfl, rfl, rfl, rfl, rfl⟩
  | succ i ih => exact ⟨ih.1, ih.2.1, ih.2.2.1, ih.2.2.2.1, by show ((R.moves a b i).marks ++ [(a + i, R.byte (b + i), ((R.moves a b i).log.length : Int))]).length = _; rw [List.length_append, ih.2.2.2.2]; rfl⟩
def RSt.moveErr (R : RSt) (to from_ n : Int) : Int := if (R.access from_ n).1 ≠ 0 then (R.access from_ n).1 else (R.access to n).1
def RSt.move (R : RSt) (to from_ n : Int) : RSt := if R.moveErr to from_ n = 0 then R.moves (to % 72057594037927936) (from_ % 72057594037927936) n.toNat else R

theorem Marked.from_ {w w1 wr : World} {p : Nat} {vc vl vm vm' : Value} {R' : RSt} (hb : Below w.heap.size w w1) (h : Marked w1 p vc vl vm wr vm' R') : Marked w p vc vl vm wr vm' R' :=
  ⟨h.rep, (Kept.of_below hb _).trans h.kept, fun g hg => (h.new g hg).imp id (fun x => Nat.le_trans hb.size x)⟩

/-- the bytes that are held -/
structure Held (w : World) (R : RSt) (b : Int) (m : Nat) (hv : Value) (wr : World) : Prop where
  bel : Below w.heap.size w wr
  row : wr.ownsRow 0 3 1 hv m ((List.range m).map fun j : Nat => Value.int .i64 (R.byte (b + (j : Int))))
  lo : ∀ g, hv.ownBlock = some g → w.heap.size ≤ g
theorem Held.grow {w wr w2 : World} {R : RSt} {b : Int} {m : Nat} {hv : Value} (h : Held w R b m hv wr) (hb2 : Below wr.heap.size wr w2) {cs : Array Value} {t : TypeId} {w7 : World} {gg cap : Nat}
    (hown : w7.ownsRow 0 3 1 (.slice (some ⟨gg, 0, none⟩) (m + 1) cap) (m + 1) (((List.range m).map fun j : Nat => Value.int .i64 (R.byte (b + (j : Int)))) ++ [.int .i64 (R.byte (b + m))]))
    (hgrow : (w2.alloc (.cells cs t)).grownBy w7 hv.ownBlock) (hat : hv.ownBlock = some gg ∨ gg = w2.heap.size + 1) : Held w R b (m + 1) (.slice (some ⟨gg, 0, none⟩) (m + 1) cap) w7 := by
  have h1 := h.bel.size
  have h2 := hb2.size
  have h3 := hgrow.size
  rw [World.size_alloc] at h3
  refine ⟨⟨hgrow.os.trans (hb2.os.trans h.bel.os), hgrow.tape.trans (hb2.tape.trans h.bel.tape), hgrow.output.trans (hb2.output.trans h.bel.output), by omega, fun k hk => ?_⟩, ?_, fun g hg => ?_⟩
  · rw [hgrow.block k (by rw [World.size_alloc]; omega) (fun e => by have := h.lo k e.symm; omega)]
    exact (Below.heap_alloc w2 _ k (by omega)).trans ((hb2.block k (by omega)).trans (h.bel.block k hk))
  · rw [List.range_succ, List.map_append]; exact hown
  · simp [Value.ownBlock] at hg
    subst hg
    rcases hat with e | e
    · exact h.lo _ e
    · omega

set_option maxRecDepth 100000 in
set_option maxHeartbeats 1600000 in
theorem rmove_any (p : Nat) (vc vl vm : Value) (R : RSt) (to from_ n : Int) (w : World) (h : RRep w p vc vl vm R) (ho : ROk R) (t1 : to ≤ 9223372036854775807) (f1 : from_ ≤ 9223372036854775807) (hroom : (R.marks.length + 65536) * 24 ≤ 140737488355328) :
    Calls Try.prog 87 #[.pointer (some ⟨p, 0, none⟩), .int .i64 to, .int .i64 from_, .int .i64 n] w fun e w' => ∃ vm', e = .returned (.int .i64 (R.moveErr to from_ n)) ∧ Marked w p vc vl vm w' vm' (R.move to from_ n) := by
  have HR := hide2 h
  have HO := hide2 ho
  have hp := h.blk.lt
  have HVM : Hid (∀ g, vm.ownBlock = some g → g < w.heap.size) := fun g hg => row_lt h.marks hg
  obtain ⟨i0, hi0, hz0, hz1, hz2⟩ := info_parts info_int
  clear h ho
  by_cases hf : (R.access from_ n).1 = 0
  · by_cases ht : (R.access to n).1 = 0
    · have HE : Hid (R.moveErr to from_ n = 0) := (if_neg (by simp [hf])).trans ht
      have HF : Hid (R.move to from_ n = R.moves (to % 72057594037927936) (from_ % 72057594037927936) n.toNat) := if_pos HE.out
      have HA := hide2 hf
      have HB := hide2 ht
      have hn : 0 ≤ n ∧ n ≤ 65536 := by
        unfold RSt.access at hf
        by_cases ha : n < 0 ∨ 65536 < n
        · rw [if_pos ha] at hf; simp at hf
        · omega
      have HTF : Hid (0 < n → 0 ≤ from_ ∧ from_ % 72057594037927936 ≤ 65535 ∧ 0 ≤ to ∧ to % 72057594037927936 ≤ 65535) := fun h0 => by
        have a := (tame_iff from_).1 (access_ok hf h0).1
        have b := (tame_iff to).1 (access_ok ht h0).1
        exact ⟨a.1, a.2.2, b.1, b.2.2⟩
      obtain ⟨n0, n1⟩ := hn
      clear hf ht
      go_enter Try.func87, Try.ntmps87
      go_wp2_with fail
      refine (raccess_any p vc vl vm R from_ n w HR.out HO.out f1).mono ?_
      rw [HA.out]
      rintro e1 w1 ⟨rfl, hb1⟩
      go_wp2_with fail
      refine (raccess_any p vc vl vm R to n w1 (HR.out.below hb1) HO.out t1).mono ?_
      rw [HB.out]
      rintro e1 w2 ⟨rfl, hb2'⟩
      have hb2 : Below w.heap.size w w2 := hb1.trans (hb2'.mono hb1.size)
      clear hb1 hb2'
      go_wp2
      go_loopw [11, 12] (fun hv i wr => ∃ m : Nat, (m : Int) ≤ n ∧ i = .int .i64 (m : Int) ∧ Held w R (from_ % 72057594037927936) m hv wr) (fun _ i _ => (n - intOf i).toNat)
      case atStart => exact ⟨0, by omega, rfl, hb2, World.ownsRow_nil _ _ _ _, nofun⟩
      case round =>
        obtain ⟨m, hm, rfl, hH⟩ := hrel
        have HH := hide2 hH
        clear hH
        by_cases hlt : (m : Int) < n
        · obtain ⟨f0, fa, _, _⟩ := HTF.out (by omega)
          have fa0 : 0 ≤ from_ % 72057594037927936 := by omega
          have m0 : (0 : Int) ≤ (m : Int) := by omega
          have HRr := hide2 (HR.out.below HH.out.bel)
          go_wp2_with fail
          refine (rbyte_any p vc vl vm R (from_ % 72057594037927936 + m) wr HRr.out HO.out).mono ?_
          rintro e2 w3 ⟨rfl, hb3⟩
          have hrow : Hid (w3.ownsRow 0 3 1 u11 m ((List.range m).map fun j : Nat => Value.int .i64 (R.byte (from_ % 72057594037927936 + (j : Int))))) := row_below HH.out.row hb3 (fun g hg => row_lt HH.out.row hg)
          obtain ⟨bt, hbt⟩ : ∃ bt, bt = R.byte (from_ % 72057594037927936 + m) := ⟨_, rfl⟩
          have HBT := hide2 hbt
          rw [← hbt]
          clear hbt
          go_wp2_with (at_builtin; refine wpList_append_lies _ rfl _ _ _ rfl 0 3 i0 _ 1 8 Try.underlying30 hi0 hz0 hz1 hz2 rfl (by omega) u11 m _ rfl (hrow.out.alloc _) ⟨w3.heap.size, 0, none⟩ 1 1 [.int .i64 bt] rfl rfl (World.news_of_block (cs := #[.int .i64 bt]) (t := 3) (fr := (0, 0)) (heap_alloc_new w3 _)) (by simp [Value.oneCell']) (by omega) (by simp [maxLen]; omega) (by omega) (by simp) (w3.heap.size + 1) (by simp) ?_; intro gg cap2 w7 hown hgrow hat hlt7)
          go_roundw
          case rel => exact ⟨m + 1, by omega, by go_num, HH.out.grow hb3 (by rw [← HBT.out]; exact hown) hgrow hat⟩
          case measure => simp [intOf]; omega
        · obtain rfl : n = (m : Int) := by omega
          obtain ⟨wo, rfl⟩ : ∃ wo, wo = wr := ⟨wr, rfl⟩
          obtain ⟨ah, caph, hva, hcaph, hmaxh, hrowh⟩ := row_open HH.out.row
          subst hva
          unfold maxLen at hmaxh
          have HRH := hide2 hrowh
          have HB1 := hide2 HH.out.bel
          have HLO := hide2 HH.out.lo
          clear hrowh
          go_wp2
          go_loopw [14] (fun i wx => ∃ (k : Nat) (vmr : Value), k ≤ m ∧ i = .int .i64 (k : Int) ∧ Marked wo p vc vl vm wx vmr (R.moves (to % 72057594037927936) (from_ % 72057594037927936) k)) (fun i _ => ((m : Int) - intOf i).toNat)
          case atStart => exact ⟨0, vm, by omega, rfl, Marked.start (HR.out.below HB1.out) (Below.refl _ _)⟩
          case round =>
            obtain ⟨k, vmr, hk, rfl, hM⟩ := hrel
            have HM := hide2 hM
            clear hM
            by_cases hlk : k < m
            · obtain ⟨_, _, t0, ta⟩ := HTF.out (by omega)
              have ta0 : 0 ≤ to % 72057594037927936 := by omega
              have k0 : (0 : Int) ≤ (k : Int) := by omega
              have k1 : (k : Int) < (m : Int) := by omega
              obtain ⟨g, rfl, hgl, hcell, _⟩ := HRH.out (by omega)
              have hgw : w.heap.size ≤ g := HLO.out g rfl
              have ck := hcell k (.int .i64 (R.byte (from_ % 72057594037927936 + (k : Int)))) (by simp [hlk])
              have cx : wr.cell? ⟨g, k, none⟩ = some (.int .i64 (R.byte (from_ % 72057594037927936 + (k : Int)))) := by
                rw [World.cell?_of_block (w := wo) (HM.out.kept.block g hgl (fun x => by
                  rcases x with x | x
                  · omega
                  · have := HVM.out g x; omega))]
                exact ck
              have hS : Hid (R.moves (to % 72057594037927936) (from_ % 72057594037927936) (k + 1) = (R.moves (to % 72057594037927936) (from_ % 72057594037927936) k).mark (to % 72057594037927936 + k) (R.byte (from_ % 72057594037927936 + k))) := rfl
              have hl := (R.moves_same (to % 72057594037927936) (from_ % 72057594037927936) k).2.2.2.2
              have hrm : ((R.moves (to % 72057594037927936) (from_ % 72057594037927936) k).marks.length + 1) * 24 ≤ 140737488355328 := by omega
              clear hcell ck hl HRH
              generalize R.moves (to % 72057594037927936) (from_ % 72057594037927936) k = Rm at *
              generalize R.byte (from_ % 72057594037927936 + (k : Int)) = bt at *
              go_wp2_with (go_at_call 115; refine (rmark_any p vc vl vmr Rm (to % 72057594037927936 + k) bt wr HM.out.rep hrm).mono ?_; rintro e2 w5 ⟨vm2, rfl, hR2, hk2, hn2⟩)
              go_roundw
              case rel => exact ⟨k + 1, vm2, by omega, by go_num, by rw [hS.out]; exact HM.out.step hR2 hk2 hn2⟩
              case measure => simp [intOf]; omega
            · obtain rfl : k = m := by omega
              go_wp2
              go_ret
              exact ⟨vmr, by rw [HE.out]; rfl, by rw [HF.out]; exact HM.out.from_ HB1.out⟩
    · have HE : Hid (R.moveErr to from_ n = (R.access to n).1) := if_neg (by simp [hf])
      have HF : Hid (R.move to from_ n = R) := if_neg (by rw [HE.out]; exact ht)
      have HA := hide2 hf
      have hab : ((R.access to n).1 != 0) = true := by simp [ht]
      clear hf ht
      go_enter Try.func87, Try.ntmps87
      go_wp2_with fail
      refine (raccess_any p vc vl vm R from_ n w HR.out HO.out f1).mono ?_
      rw [HA.out]
      rintro e1 w1 ⟨rfl, hb1⟩
      go_wp2_with fail
      refine (raccess_any p vc vl vm R to n w1 (HR.out.below hb1) HO.out t1).mono ?_
      rintro e1 w2 ⟨rfl, hb2'⟩
      have hb2 : Below w.heap.size w w2 := hb1.trans (hb2'.mono hb1.size)
      go_wp2
      go_ret
      exact ⟨vm, by rw [HE.out]; rfl, by rw [HF.out]; exact Marked.start HR.out hb2⟩
  · have HE : Hid (R.moveErr to from_ n = (R.access from_ n).1) := if_pos hf
    have HF : Hid (R.move to from_ n = R) := if_neg (by rw [HE.out]; exact hf)
    have hab : ((R.access from_ n).1 != 0) = true := by simp [hf]
    clear hf
    go_enter Try.func87, Try.ntmps87
    go_wp2_with (go_at_call 112; refine (raccess_any p vc vl vm R from_ n w HR.out HO.out f1).mono ?_; rintro e1 w1 ⟨rfl, hb1⟩)
    go_ret
    exact ⟨vm, by rw [HE.out]; rfl, by rw [HF.out]; exact Marked.start HR.out hb1⟩
end Go.Proofs.Ytjikemhmnkckcaa
/- The document's Realloc. -/
namespace Go.Proofs.Ytjikemhmnkckcaa
open Go.RowKit

def RSt.copies (R : RSt) (a b : Int) : Nat → RSt
  | 0 => R
  | i + 1 => (R.copies a b i).mark (a + i) ((R.copies a b i).byte (b + i))
theorem RSt.copies_same (R : RSt) (a b : Int) (i : Nat) : (R.copies a b i).st = R.st ∧ (R.copies a b i).rest = R.rest ∧ (R.copies a b i).cls = R.cls ∧ (R.copies a b i).log = R.log ∧ (R.copies a b i).marks.length = R.marks.length + i := by
  induction i with
  | zero => exact ⟨rfl, rfl, rfl, rfl, rfl⟩
  | succ i ih => exact ⟨ih.1, ih.2.1, ih.2.2.1, ih.2.2.2.1, by show ((R.copies a b i).marks ++ [(a + i, (R.copies a b i).byte (b + i), ((R.copies a b i).log.length : Int))]).length = _; rw [List.length_append, ih.2.2.2.2]; rfl⟩
theorem ROk.same {R R' : RSt} (h : ROk R) (h1 : R'.st = R.st) (h2 : R'.rest = R.rest) (h3 : R'.cls = R.cls) (h4 : R'.log = R.log) : ROk R' :=
  ⟨by rw [h1, h2, h3]; exact h.conf, fun i => by rw [h4]; exact h.size0 i, fun i => by rw [h4]; exact h.size1 i⟩
theorem ROk.copies {R : RSt} (h : ROk R) (a b : Int) (i : Nat) : ROk (R.copies a b i) :=
  h.same (R.copies_same a b i).1 (R.copies_same a b i).2.1 (R.copies_same a b i).2.2.1 (R.copies_same a b i).2.2.2.1

theorem getD_snoc (log : List Ref.Ev) (e : Ref.Ev) (i : Nat) : (log ++ [e]).getD i Ref.Ev.no = log.getD i Ref.Ev.no ∨ (log ++ [e]).getD i Ref.Ev.no = e := by
  rcases Nat.lt_trichotomy i log.length with h | h | h
  · exact .inl (Ref.getD_old log e i h)
  · subst h; exact .inr (Ref.getD_new log e)
  · left
    simp [List.getD_eq_getElem?_getD, List.getElem?_eq_none (show (log ++ [e]).length ≤ i by simp; omega), List.getElem?_eq_none (show log.length ≤ i by omega)]
theorem mR_rok {R : RSt} (h : ROk R) (size draw site : Int) : ROk (mR R size draw site) := by
  rcases mOut_cases R h size draw with ⟨_, hm⟩ | ⟨k, _, _, _, _, hm⟩ | ⟨k, s, h1, hk, hkl, hf, hs, hz, hm⟩
  · unfold mR; rw [hm]; exact h
  · unfold mR; rw [hm]; exact h
  · rw [mR_ok hk hf (by rw [hm])]
    have hb := gsz_bd h1 hz (h.conf.g1 k hkl)
    refine ⟨h.conf, fun i => ?_, fun i => ?_⟩
    · rcases getD_snoc R.log ⟨false, k, s, Ref.tagOf R.log k s draw, Ref.gsz size, site⟩ i with e | e
      · show 0 ≤ ((R.log ++ [_]).getD i Ref.Ev.no).size
        rw [e]; exact h.size0 i
      · show 0 ≤ ((R.log ++ [_]).getD i Ref.Ev.no).size
        rw [e]; exact hb.1
    · rcases getD_snoc R.log ⟨false, k, s, Ref.tagOf R.log k s draw, Ref.gsz size, site⟩ i with e | e
      · show ((R.log ++ [_]).getD i Ref.Ev.no).size ≤ 8
        rw [e]; exact h.size1 i
      · show ((R.log ++ [_]).getD i Ref.Ev.no).size ≤ 8
        rw [e]; exact hb.2
theorem usable_bd {R : RSt} (h : ROk R) (q : Int) : 0 ≤ (R.usable q).1 ∧ (R.usable q).1 ≤ 128 := by
  unfold RSt.usable
  split
  · simp
  · have h0 := h.size0 (Ref.given R.log (Ref.block R.st R.cls R.log q).1 (Ref.block R.st R.cls R.log q).2.1).toNat
    have h1 := h.size1 (Ref.given R.log (Ref.block R.st R.cls R.log q).1 (Ref.block R.st R.cls R.log q).2.1).toNat
    constructor
    · show 0 ≤ 16 * _
      omega
    · show 16 * _ ≤ 128
      omega

/-- what Free makes of it -/
def fR (R : RSt) (q site : Int) : RSt :=
  if q ≠ 0 ∧ (Ref.block R.st R.cls R.log q).2.2 = 0 then ⟨R.st, R.rest, R.cls, R.log ++ [⟨true, (Ref.block R.st R.cls R.log q).1, (Ref.block R.st R.cls R.log q).2.1, 0, 0, site⟩], R.marks⟩ else R
theorem rfree_st (p : Nat) (vc vl vm : Value) (R : RSt) (q site : Int) (w : World) (h : RRep w p vc vl vm R) (ho : ROk R) (q1 : q ≤ 9223372036854775807) (hroom : (R.log.length + 1) * 48 ≤ 140737488355328) :
    Calls Try.prog 107 #[.pointer (some ⟨p, 0, none⟩), .int .i64 q, .int .i64 site] w fun e w' => ∃ vl', e = .returned (.int .i64 (fOut R q)) ∧ RRep w' p vc vl' vm (fR R q site) ∧ Kept w w' (RFoot p vc vl vm) ∧ NewBlk vl vl' w := by
  refine (rfree_all p vc vl vm R q site w h ho q1 hroom).mono ?_
  rintro e w' ⟨vl', rfl, hk, hn, hc⟩
  unfold fDoes at hc
  rcases hc with ⟨hd, hR⟩ | ⟨k, s, hd, hb, hR⟩
  · exact ⟨vl', rfl, by unfold fR; rw [if_neg hd]; exact hR, hk, hn⟩
  · refine ⟨vl', rfl, ?_, hk, hn⟩
    unfold fR; rw [if_pos hd, hb]; exact hR

/-- how many bytes go along -/
def RSt.reN (R : RSt) (q size draw site : Int) : Nat := (min ((mR R size draw site).usable q).1 ((mR R size draw site).usable (mOut R size draw).1).1).toNat
def RSt.reBad (R : RSt) (q : Int) : Prop := q ≠ 0 ∧ (Ref.block R.st R.cls R.log q).2.2 ≠ 0
instance (R : RSt) (q : Int) : Decidable (R.reBad q) := by unfold RSt.reBad; infer_instance
def RSt.reOut (R : RSt) (q size draw : Int) : Int × Int := if R.reBad q then (0, (Ref.block R.st R.cls R.log q).2.2) else mOut R size draw
def RSt.re (R : RSt) (q size draw site : Int) : RSt :=
  if R.reBad q then R else if (mOut R size draw).2 ≠ 0 ∨ q = 0 then mR R size draw site
  else fR ((mR R size draw site).copies ((mOut R size draw).1 % 72057594037927936) (q % 72057594037927936) (R.reN q size draw site)) q site
end Go.Proofs.Ytjikemhmnkckcaa
