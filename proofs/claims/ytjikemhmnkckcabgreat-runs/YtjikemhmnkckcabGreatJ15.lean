import Derived.Test.YtjikemhmnkckcabGreatJ14
namespace Go.Proofs.YtjikemhmnkckcabGreat
open Go.RowKit

theorem Kept.trans' {a b c : World} {S T : Nat → Prop} (h : Kept a b S) (g : Kept b c T) (ht : ∀ k, k < a.heap.size → T k → S k) : Kept a c S :=
  ⟨g.os.trans h.os, g.tape.trans h.tape, g.output.trans h.output, Nat.le_trans h.size g.size, fun k hk hs => (g.block k (Nat.lt_of_lt_of_le hk h.size) (fun x => hs (ht k hk x))).trans (h.block k hk hs)⟩
theorem mR_len (R : RSt) (size draw site : Int) : (mR R size draw site).log.length ≤ R.log.length + 1 := by unfold mR; split <;> simp

end Go.Proofs.YtjikemhmnkckcabGreat
/- The document's Realloc. -/
namespace Go.Proofs.YtjikemhmnkckcabGreat
open Go.RowKit

def RSt.copies (R : RSt) (a b : Int) : Nat → RSt
  | 0 => R
  | i + 1 => (R.copies a b i).mark (a + i) ((R.copies a b i).byte (b + i))
theorem RSt.copies_same (R : RSt) (a b : Int) (i : Nat) : (R.copies a b i).st = R.st ∧ (R.copies a b i).rest = R.rest ∧ (R.copies a b i).cls = R.cls ∧ (R.copies a b i).log = R.log ∧ (R.copies a b i).marks.length = R.marks.length + i := by
  induction i with
  | zero => exact ⟨rfl, rfl, rfl, rfl, rfl⟩
  | succ i ih => exact ⟨ih.1, ih.2.1, ih.2.2.1, ih.2.2.2.1, by show ((R.copies a b i).marks ++ [(a + i, (R.copies a b i).byte (b + i), ((R.copies a b i).log.length : Int))]).length = _; rw [List.length_append, ih.2.2.2.2]; rfl⟩
theorem ROk.same {R R' : RSt} (h : ROk R) (h1 : R'.st = R.st) (h2 : R'.rest = R.rest) (h3 : R'.cls = R.cls) (h4 : R'.log = R.log) : ROk R' :=
  ⟨by rw [h1, h2, h3]; exact h.conf, fun i => by rw [h4]; exact h.size0 i, fun i => by rw [h4]; exact h.size1 i⟩
theorem ROk.copies {R : RSt} (h : ROk R) (a b : Int) (i : Nat) : ROk (R.copies a b i) :=
  h.same (R.copies_same a b i).1 (R.copies_same a b i).2.1 (R.copies_same a b i).2.2.1 (R.copies_same a b i).2.2.2.1

theorem getD_snoc (log : List Ref.Ev) (e : Ref.Ev) (i : Nat) : (log ++ [e]).getD i Ref.Ev.no = log.getD i Ref.Ev.no ∨ (log ++ [e]).getD i Ref.Ev.no = e := by
  rcases Nat.lt_trichotomy i log.length with h | h | h
  · exact .inl (Ref.getD_old log e i h)
  · subst h; exact .inr (Ref.getD_new log e)
  · left
    simp [List.getD_eq_getElem?_getD, List.getElem?_eq_none (show (log ++ [e]).length ≤ i by simp; omega), List.getElem?_eq_none (show log.length ≤ i by omega)]
theorem mR_rok {R : RSt} (h : ROk R) (size draw site : Int) : ROk (mR R size draw site) := by
  rcases mOut_cases R h size draw with ⟨_, hm⟩ | ⟨k, _, _, _, _, hm⟩ | ⟨k, s, h1, hk, hkl, hf, hs, hz, hm⟩
  · unfold mR; rw [hm]; exact h
  · unfold mR; rw [hm]; exact h
  · rw [mR_ok hk hf (by rw [hm])]
    have hb := gsz_bd h1 hz (h.conf.g1 k hkl)
    refine ⟨h.conf, fun i => ?_, fun i => ?_⟩
    · rcases getD_snoc R.log ⟨false, k, s, Ref.tagOf R.log k s draw, Ref.gsz size, site⟩ i with e | e
      · show 0 ≤ ((R.log ++ [_]).getD i Ref.Ev.no).size
        rw [e]; exact h.size0 i
      · show 0 ≤ ((R.log ++ [_]).getD i Ref.Ev.no).size
        rw [e]; exact hb.1
    · rcases getD_snoc R.log ⟨false, k, s, Ref.tagOf R.log k s draw, Ref.gsz size, site⟩ i with e | e
      · show ((R.log ++ [_]).getD i Ref.Ev.no).size ≤ 8
        rw [e]; exact h.size1 i
      · show ((R.log ++ [_]).getD i Ref.Ev.no).size ≤ 8
        rw [e]; exact hb.2
theorem usable_bd {R : RSt} (h : ROk R) (q : Int) : 0 ≤ (R.usable q).1 ∧ (R.usable q).1 ≤ 128 := by
  unfold RSt.usable
  split
  · simp
  · have h0 := h.size0 (Ref.given R.log (Ref.block R.st R.cls R.log q).1 (Ref.block R.st R.cls R.log q).2.1).toNat
    have h1 := h.size1 (Ref.given R.log (Ref.block R.st R.cls R.log q).1 (Ref.block R.st R.cls R.log q).2.1).toNat
    constructor
    · show 0 ≤ 16 * _
      omega
    · show 16 * _ ≤ 128
      omega

/-- what Free makes of it -/
def fR (R : RSt) (q site : Int) : RSt :=
  if q ≠ 0 ∧ (Ref.block R.st R.cls R.log q).2.2 = 0 then ⟨R.st, R.rest, R.cls, R.log ++ [⟨true, (Ref.block R.st R.cls R.log q).1, (Ref.block R.st R.cls R.log q).2.1, 0, 0, site⟩], R.marks⟩ else R
theorem rfree_st (p : Nat) (vc vl vm : Value) (R : RSt) (q site : Int) (w : World) (h : RRep w p vc vl vm R) (ho : ROk R) (q1 : q ≤ 9223372036854775807) (hroom : (R.log.length + 1) * 48 ≤ 140737488355328) :
    Calls Tryz.prog 36 #[.pointer (some ⟨p, 0, none⟩), .int .i64 q, .int .i64 site] w fun e w' => ∃ vl', e = .returned (.int .i64 (fOut R q)) ∧ RRep w' p vc vl' vm (fR R q site) ∧ Kept w w' (RFoot p vc vl vm) ∧ NewBlk vl vl' w := by
  refine (rfree_all p vc vl vm R q site w h ho q1 hroom).mono ?_
  rintro e w' ⟨vl', rfl, hk, hn, hc⟩
  unfold fDoes at hc
  rcases hc with ⟨hd, hR⟩ | ⟨k, s, hd, hb, hR⟩
  · exact ⟨vl', rfl, by unfold fR; rw [if_neg hd]; exact hR, hk, hn⟩
  · refine ⟨vl', rfl, ?_, hk, hn⟩
    unfold fR; rw [if_pos hd, hb]; exact hR

/-- how many bytes go along -/
def RSt.reN (R : RSt) (q size draw site : Int) : Nat := (min ((mR R size draw site).usable q).1 ((mR R size draw site).usable (mOut R size draw).1).1).toNat
def RSt.reBad (R : RSt) (q : Int) : Prop := q ≠ 0 ∧ (Ref.block R.st R.cls R.log q).2.2 ≠ 0
instance (R : RSt) (q : Int) : Decidable (R.reBad q) := by unfold RSt.reBad; infer_instance
def RSt.reOut (R : RSt) (q size draw : Int) : Int × Int := if R.reBad q then (0, (Ref.block R.st R.cls R.log q).2.2) else mOut R size draw
def RSt.re (R : RSt) (q size draw site : Int) : RSt :=
  if R.reBad q then R else if (mOut R size draw).2 ≠ 0 ∨ q = 0 then mR R size draw site
  else fR ((mR R size draw site).copies ((mOut R size draw).1 % 72057594037927936) (q % 72057594037927936) (R.reN q size draw site)) q site
end Go.Proofs.YtjikemhmnkckcabGreat
namespace Go.Proofs.YtjikemhmnkckcabGreat
open Go.RowKit

/-- the heap's lists have moved on -/
structure RGone (w : World) (p : Nat) (vc vl vm : Value) (w' : World) (vl' vm' : Value) (R' : RSt) : Prop where
  rep : RRep w' p vc vl' vm' R'
  kept : Kept w w' (RFoot p vc vl vm)
  newL : NewBlk vl vl' w
  newM : NewBlk vm vm' w
theorem RGone.start {w w' : World} {p : Nat} {vc vl vm : Value} {R : RSt} (h : RRep w p vc vl vm R) (hb : Below w.heap.size w w') : RGone w p vc vl vm w' vl vm R :=
  ⟨h.below hb, Kept.of_below hb _, fun _ hg => .inl hg, fun _ hg => .inl hg⟩
theorem RGone.trans {w w1 w2 : World} {p : Nat} {vc vl vm vl1 vm1 vl2 vm2 : Value} {R1 R2 : RSt} (h : RGone w p vc vl vm w1 vl1 vm1 R1) (hR : RRep w2 p vc vl2 vm2 R2) (hk : Kept w1 w2 (RFoot p vc vl1 vm1)) (hl : NewBlk vl1 vl2 w1) (hm : NewBlk vm1 vm2 w1) : RGone w p vc vl vm w2 vl2 vm2 R2 := by
  have hs := h.kept.size
  refine ⟨hR, ⟨hk.os.trans h.kept.os, hk.tape.trans h.kept.tape, hk.output.trans h.kept.output, Nat.le_trans hs hk.size, fun k hlt hx => ?_⟩, fun g hg => ?_, fun g hg => ?_⟩
  · refine (hk.block k (Nat.lt_of_lt_of_le hlt hs) (fun x => ?_)).trans (h.kept.block k hlt hx)
    rcases x with x | x | x | x
    · exact hx (.inl x)
    · exact hx (.inr (.inl x))
    · rcases h.newL k x with x | x
      · exact hx (.inr (.inr (.inl x)))
      · omega
    · rcases h.newM k x with x | x
      · exact hx (.inr (.inr (.inr x)))
      · omega
  · rcases hl g hg with x | x
    · exact h.newL g x
    · exact .inr (Nat.le_trans hs x)
  · rcases hm g hg with x | x
    · exact h.newM g x
    · exact .inr (Nat.le_trans hs x)
theorem RGone.marked {w w1 w2 : World} {p : Nat} {vc vl vm vl1 vm1 vm2 : Value} {R1 R2 : RSt} (h : RGone w p vc vl vm w1 vl1 vm1 R1) (hm : Marked w1 p vc vl1 vm1 w2 vm2 R2) : RGone w p vc vl vm w2 vl1 vm2 R2 :=
  h.trans hm.rep (hm.kept.mono fun b _ hb => by
    rcases hb with hb | hb
    · exact .inl hb
    · exact .inr (.inr (.inr hb))) (fun _ hg => .inl hg) hm.new

set_option maxRecDepth 100000 in
set_option maxHeartbeats 1600000 in
theorem rrealloc_any (p : Nat) (vc vl vm : Value) (R : RSt) (q size draw site : Int) (w : World) (h : RRep w p vc vl vm R) (ho : ROk R) (q1 : q ≤ 9223372036854775807) (hroomL : (R.log.length + 2) * 48 ≤ 140737488355328) (hroomM : (R.marks.length + 128) * 24 ≤ 140737488355328) :
    Calls Tryz.prog 58 #[.pointer (some ⟨p, 0, none⟩), .int .i64 q, .int .i64 size, .int .i64 draw, .int .i64 site] w fun e w' => ∃ vl' vm', e = .returned (.tuple #[.int .i64 (R.reOut q size draw).1, .int .i64 (R.reOut q size draw).2]) ∧ RGone w p vc vl vm w' vl' vm' (R.re q size draw site) := by
  have HR := hide2 h
  have HO := hide2 ho
  clear h ho
  by_cases hq : q = 0
  · have hnb : ¬ R.reBad q := fun x => x.1 hq
    have HE : Hid (R.reOut q size draw = mOut R size draw) := if_neg hnb
    have HF : Hid (R.re q size draw site = mR R size draw site) := (if_neg hnb).trans (if_pos (.inr hq))
    clear hnb
    subst hq
    go_enter Tryz.func58, Tryz.ntmps58
    go_wp2_with (go_at_call 87; refine (rmalloc_all p vc vl vm R size draw site w HR.out HO.out (by omega)).mono ?_; rintro e1 w1 ⟨vl', rfl, hR1, hk1, hn1⟩)
    all_goals
      go_ret2
      refine ⟨vl', vm, ?_, by rw [HF.out]; exact ⟨hR1, hk1, hn1, fun _ hg => .inl hg⟩⟩
      rw [HE.out]
      first | rfl | (rename_i hh; rw [hh]; rfl)
  · have hqb : (q == 0) = false := by rw [beq_eq_false_iff_ne]; exact hq
    have hqb2 : (q != 0) = true := by simp [hq]
    by_cases hbad : (Ref.block R.st R.cls R.log q).2.2 = 0
    · have hnb : ¬ R.reBad q := fun x => x.2 hbad
      have HE : Hid (R.reOut q size draw = mOut R size draw) := if_neg hnb
      have HBK := hide2 hbad
      have htm : 0 ≤ q ∧ q / 72057594037927936 ≤ 15 ∧ q % 72057594037927936 ≤ 65535 := by
        cases ht : Ref.tameB q
        · exfalso
          unfold Ref.block at hbad
          rw [ht] at hbad
          simp at hbad
        · exact (tame_iff q).1 ht
      have HM1 := hide2 (mR_rok HO.out size draw site)
      by_cases hm : (mOut R size draw).2 = 0
      · have HF : Hid (R.re q size draw site = fR ((mR R size draw site).copies ((mOut R size draw).1 % 72057594037927936) (q % 72057594037927936) (R.reN q size draw site)) q site) := (if_neg hnb).trans (if_neg (by omega))
        have HMO := hide2 hm
        have hob := mOut_bd HO.out size draw
        have o0 := hob.1
        have o1 := hob.2
        have oa0 : 0 ≤ (mOut R size draw).1 % 72057594037927936 := by omega
        have oa1 : (mOut R size draw).1 % 72057594037927936 < 72057594037927936 := by omega
        have qa0 : 0 ≤ q % 72057594037927936 := by omega
        obtain ⟨q0, _, qa1⟩ := htm
        have HL1 := hide2 (mR_len R size draw site)
        have HMM : Hid ((mR R size draw site).marks = R.marks) := by show _ = _; unfold mR; split <;> rfl
        clear hm hob hbad hnb
        go_enter Tryz.func58, Tryz.ntmps58
        go_wp2_with fail
        refine (rblock_any p vc vl vm R q w HR.out HO.out q1).mono ?_
        rw [HBK.out]
        rintro e1 w1 ⟨rfl, hb1⟩
        go_wp2_with fail
        refine (rmalloc_all p vc vl vm R size draw site w1 (HR.out.below hb1) HO.out (by omega)).mono ?_
        rw [HMO.out]
        rintro e1 w2 ⟨vl', rfl, hR2, hk2, hn2⟩
        have HG2 : Hid (RGone w p vc vl vm w2 vl' vm (mR R size draw site)) := (RGone.start HR.out hb1).trans hR2 hk2 hn2 (fun _ hg => .inl hg)
        have HR2 := hide2 hR2
        clear hR2 hk2 hn2 hb1
        go_wp2_with fail
        refine (rusable_any p vc vl' vm _ q w2 HR2.out HM1.out q1).mono ?_
        rintro e1 w3 ⟨rfl, hb3⟩
        go_wp2_with fail
        refine (rusable_any p vc vl' vm _ (mOut R size draw).1 w3 (HR2.out.below hb3) HM1.out (by omega)).mono ?_
        rintro e1 w4 ⟨rfl, hb4⟩
        have hu1 := usable_bd HM1.out q
        have hu2 := usable_bd HM1.out (mOut R size draw).1
        have HG4 : Hid (RGone w p vc vl vm w4 vl' vm (mR R size draw site)) := HG2.out.trans ((HR2.out.below hb3).below hb4) (Kept.of_below (hb3.trans (hb4.mono hb3.size)) _) (fun _ hg => .inl hg) (fun _ hg => .inl hg)
        have HN : Hid (R.reN q size draw site = (min ((mR R size draw site).usable q).1 ((mR R size draw site).usable (mOut R size draw).1).1).toNat) := rfl
        have HE1 : Hid ((R.reOut q size draw).1 = (mOut R size draw).1 ∧ (R.reOut q size draw).2 = 0) := ⟨by rw [HE.out], by rw [HE.out]; exact HMO.out⟩
        clear HG2 HR2 hb3 hb4 HE
        generalize hr1 : mR R size draw site = R1 at *
        generalize (R1.usable q).1 = un at *
        generalize (R1.usable (mOut R size draw).1).1 = um at *
        generalize (mOut R size draw).1 = oq at *
        generalize R.reN q size draw site = N at *
        clear hr1
        go_wp2
        go_loopw [21] (fun i wr => ∃ (m : Nat) (vmr : Value), m ≤ N ∧ i = .int .i64 (m : Int) ∧ RGone w p vc vl vm wr vl' vmr (R1.copies (oq % 72057594037927936) (q % 72057594037927936) m)) (fun i _ => ((N : Int) - intOf i).toNat)
        case atStart => exact ⟨0, vm, by omega, rfl, HG4.out⟩
        case round =>
          obtain ⟨m, vmr, hm, rfl, hM⟩ := hrel
          have HMr := hide2 hM
          clear hM
          have hNN := HN.out
          by_cases hlt : m < N
          · have l1 : (m : Int) < un := by omega
            have l2 : (m : Int) < um := by omega
            have m0 : (0 : Int) ≤ (m : Int) := by omega
            have hS : Hid (R1.copies (oq % 72057594037927936) (q % 72057594037927936) (m + 1) = (R1.copies (oq % 72057594037927936) (q % 72057594037927936) m).mark (oq % 72057594037927936 + m) ((R1.copies (oq % 72057594037927936) (q % 72057594037927936) m).byte (q % 72057594037927936 + m))) := rfl
            have hl := (R1.copies_same (oq % 72057594037927936) (q % 72057594037927936) m).2.2.2.2
            rw [HMM.out] at hl
            have hrm : ((R1.copies (oq % 72057594037927936) (q % 72057594037927936) m).marks.length + 1) * 24 ≤ 140737488355328 := by omega
            have HOm := hide2 (HM1.out.copies (oq % 72057594037927936) (q % 72057594037927936) m)
            clear hl hNN
            generalize R1.copies (oq % 72057594037927936) (q % 72057594037927936) m = Rm at *
            go_wp2_with fail
            refine (rbyte_any p vc vl' vmr Rm (q % 72057594037927936 + m) wr HMr.out.rep HOm.out).mono ?_
            rintro e2 w5 ⟨rfl, hb5⟩
            have HG5 := hide2 (HMr.out.trans (HMr.out.rep.below hb5) (Kept.of_below hb5 _) (fun _ hg => .inl hg) (fun _ hg => .inl hg))
            clear hb5
            generalize Rm.byte (q % 72057594037927936 + m) = bt at *
            go_wp2_with fail
            refine (rmark_any p vc vl' vmr Rm (oq % 72057594037927936 + m) bt w5 HG5.out.rep hrm).mono ?_
            rintro e2 w6 ⟨vm2, rfl, hR6, hk6, hn6⟩
            have HG6 : Hid (RGone w p vc vl vm w6 vl' vm2 (Rm.mark (oq % 72057594037927936 + m) bt)) := HG5.out.trans hR6 (hk6.mono fun b _ hb => by
              rcases hb with hb | hb
              · exact .inl hb
              · exact .inr (.inr (.inr hb))) (fun _ hg => .inl hg) hn6
            clear hR6 hk6 hn6
            go_wp2
            go_roundw
            case rel => exact ⟨m + 1, vm2, by omega, by go_num, by rw [hS.out]; exact HG6.out⟩
            case measure => simp [intOf]; omega
          · obtain rfl : m = N := by omega
            by_cases l1 : un ≤ (m : Int)
            · clear hNN
              go_wp2_with fail
              refine (rfree_st p vc vl' vmr _ q site wr HMr.out.rep (HM1.out.copies _ _ _) q1 (by rw [(R1.copies_same (oq % 72057594037927936) (q % 72057594037927936) m).2.2.2.1]; have := HL1.out; omega)).mono ?_
              rintro e2 w6 ⟨vl2, rfl, hR6, hk6, hn6⟩
              have HGF := hide2 (HMr.out.trans hR6 hk6 hn6 (fun _ hg => .inl hg))
              clear hR6 hk6 hn6
              go_wp2
              go_ret2
              exact ⟨vl2, vmr, by rw [HE1.out.1, HE1.out.2]; rfl, by rw [HF.out]; exact HGF.out⟩
            · have l1' : (m : Int) < un := by omega
              have l2 : um ≤ (m : Int) := by omega
              clear hNN
              go_wp2_with fail
              refine (rfree_st p vc vl' vmr _ q site wr HMr.out.rep (HM1.out.copies _ _ _) q1 (by rw [(R1.copies_same (oq % 72057594037927936) (q % 72057594037927936) m).2.2.2.1]; have := HL1.out; omega)).mono ?_
              rintro e2 w6 ⟨vl2, rfl, hR6, hk6, hn6⟩
              have HGF := hide2 (HMr.out.trans hR6 hk6 hn6 (fun _ hg => .inl hg))
              clear hR6 hk6 hn6
              go_wp2
              go_ret2
              exact ⟨vl2, vmr, by rw [HE1.out.1, HE1.out.2]; rfl, by rw [HF.out]; exact HGF.out⟩
      · have HF : Hid (R.re q size draw site = mR R size draw site) := (if_neg hnb).trans (if_pos (.inl hm))
        have hmb : ((mOut R size draw).2 != 0) = true := by simp [hm]
        clear hm hbad hnb
        go_enter Tryz.func58, Tryz.ntmps58
        go_wp2_with fail
        refine (rblock_any p vc vl vm R q w HR.out HO.out q1).mono ?_
        rw [HBK.out]
        rintro e1 w1 ⟨rfl, hb1⟩
        go_wp2_with fail
        refine (rmalloc_all p vc vl vm R size draw site w1 (HR.out.below hb1) HO.out (by omega)).mono ?_
        rintro e1 w2 ⟨vl', rfl, hR2, hk2, hn2⟩
        go_wp2
        all_goals
          go_ret2
          exact ⟨vl', vm, by rw [HE.out]; rfl, by rw [HF.out]; exact (RGone.start HR.out hb1).trans hR2 hk2 hn2 (fun _ hg => .inl hg)⟩
    · have hb' : R.reBad q := ⟨hq, hbad⟩
      have HE : Hid (R.reOut q size draw = (0, (Ref.block R.st R.cls R.log q).2.2)) := if_pos hb'
      have HF : Hid (R.re q size draw site = R) := if_pos hb'
      have heb : ((Ref.block R.st R.cls R.log q).2.2 != 0) = true := by simp [hbad]
      clear hb' hbad
      go_enter Tryz.func58, Tryz.ntmps58
      go_wp2_with (go_at_call 59; refine (rblock_any p vc vl vm R q w HR.out HO.out q1).mono ?_; rintro e1 w1 ⟨rfl, hb1⟩)
      go_ret2
      exact ⟨vl, vm, by rw [HE.out]; rfl, by rw [HF.out]; exact RGone.start HR.out hb1⟩
end Go.Proofs.YtjikemhmnkckcabGreat
