import Derived.Test.YtjikemhmnkckcaaJ26
namespace Go.Proofs.Ytjikemhmnkckcaa
open Go.RowKit

/-- the heap's lists have moved on -/
structure RGone (w : World) (p : Nat) (vc vl vm : Value) (w' : World) (vl' vm' : Value) (R' : RSt) : Prop where
  rep : RRep w' p vc vl' vm' R'
  kept : Kept w w' (RFoot p vc vl vm)
  newL : NewBlk vl vl' w
  newM : NewBlk vm vm' w
theorem RGone.start {w w' : World} {p : Nat} {vc vl vm : Value} {R : RSt} (h : RRep w p vc vl vm R) (hb : Below w.heap.size w w') : RGone w p vc vl vm w' vl vm R :=
  ⟨h.below hb, Kept.of_below hb _, fun _ hg => .inl hg, fun _ hg => .inl hg⟩
theorem RGone.trans {w w1 w2 : World} {p : Nat} {vc vl vm vl1 vm1 vl2 vm2 : Value} {R1 R2 : RSt} (h : RGone w p vc vl vm w1 vl1 vm1 R1) (hR : RRep w2 p vc vl2 vm2 R2) (hk : Kept w1 w2 (RFoot p vc vl1 vm1)) (hl : NewBlk vl1 vl2 w1) (hm : NewBlk vm1 vm2 w1) : RGone w p vc vl vm w2 vl2 vm2 R2 := by
  have hs := h.kept.size
  refine ⟨hR, ⟨hk.os.trans h.kept.os, hk.tape.trans h.kept.tape, hk.output.trans h.kept.output, Nat.le_trans hs hk.size, fun k hlt hx => ?_⟩, fun g hg => ?_, fun g hg => ?_⟩
  · refine (hk.block k (Nat.lt_of_lt_of_le hlt hs) (fun x => ?_)).trans (h.kept.block k hlt hx)
    rcases x with x | x | x | x
    · exact hx (.inl x)
    · exact hx (.inr (.inl x))
    · rcases h.newL k x with x | x
      · exact hx (.inr (.inr (.inl x)))
      · omega
    · rcases h.newM k x with x | x
      · exact hx (.inr (.inr (.inr x)))
      · omega
  · rcases hl g hg with x | x
    · exact h.newL g x
    · exact .inr (Nat.le_trans hs x)
  · rcases hm g hg with x | x
    · exact h.newM g x
    · exact .inr (Nat.le_trans hs x)
theorem RGone.marked {w w1 w2 : World} {p : Nat} {vc vl vm vl1 vm1 vm2 : Value} {R1 R2 : RSt} (h : RGone w p vc vl vm w1 vl1 vm1 R1) (hm : Marked w1 p vc vl1 vm1 w2 vm2 R2) : RGone w p vc vl vm w2 vl1 vm2 R2 :=
  h.trans hm.rep (hm.kept.mono fun b _ hb => by
    rcases hb with hb | hb
    · exact .inl hb
    · exact .inr (.inr (.inr hb))) (fun _ hg => .inl hg) hm.new

set_option maxRecDepth 100000 in
set_option maxHeartbeats 1600000 in
theorem rrealloc_any (p : Nat) (vc vl vm : Value) (R : RSt) (q size draw site : Int) (w : World) (h : RRep w p vc vl vm R) (ho : ROk R) (q1 : q ≤ 9223372036854775807) (hroomL : (R.log.length + 2) * 48 ≤ 140737488355328) (hroomM : (R.marks.length + 128) * 24 ≤ 140737488355328) :
    Calls Try.prog 109 #[.pointer (some ⟨p, 0, none⟩), .int .i64 q, .int .i64 size, .int .i64 draw, .int .i64 site] w fun e w' => ∃ vl' vm', e = .returned (.tuple #[.int .i64 (R.reOut q size draw).1, .int .i64 (R.reOut q size draw).2]) ∧ RGone w p vc vl vm w' vl' vm' (R.re q size draw site) := by
  have HR := hide2 h
  have HO := hide2 ho
  clear h ho
  by_cases hq : q = 0
  · have hnb : ¬ R.reBad q := fun x => x.1 hq
    have HE : Hid (R.reOut q size draw = mOut R size draw) := if_neg hnb
    have HF : Hid (R.re q size draw site = mR R size draw site) := (if_neg hnb).trans (if_pos (.inr hq))
    clear hnb
    subst hq
    go_enter Try.func109, Try.ntmps109
    go_wp2_with (go_at_call 105; refine (rmalloc_all p vc vl vm R size draw site w HR.out HO.out (by omega)).mono ?_; rintro e1 w1 ⟨vl', rfl, hR1, hk1, hn1⟩)
    all_goals
      go_ret2
      refine ⟨vl', vm, ?_, by rw [HF.out]; exact ⟨hR1, hk1, hn1, fun _ hg => .inl hg⟩⟩
      rw [HE.out]
      first | rfl | (rename_i hh; rw [hh]; rfl)
  · have hqb : (q == 0) = false := by rw [beq_eq_false_iff_ne]; exact hq
    have hqb2 : (q != 0) = true := by simp [hq]
    by_cases hbad : (Ref.block R.st R.cls R.log q).2.2 = 0
    · have hnb : ¬ R.reBad q := fun x => x.2 hbad
      have HE : Hid (R.reOut q size draw = mOut R size draw) := if_neg hnb
      have HBK := hide2 hbad
      have htm : 0 ≤ q ∧ q / 72057594037927936 ≤ 15 ∧ q % 72057594037927936 ≤ 65535 := by
        cases ht : Ref.tameB q
        · exfalso
          unfold Ref.block at hbad
          rw [ht] at hbad
          simp at hbad
        · exact (tame_iff q).1 ht
      have HM1 := hide2 (mR_rok HO.out size draw site)
      by_cases hm : (mOut R size draw).2 = 0
      · have HF : Hid (R.re q size draw site = fR ((mR R size draw site).copies ((mOut R size draw).1 % 72057594037927936) (q % 72057594037927936) (R.reN q size draw site)) q site) := (if_neg hnb).trans (if_neg (by omega))
        have HMO := hide2 hm
        have hob := mOut_bd HO.out size draw
        have o0 := hob.1
        have o1 := hob.2
        have oa0 : 0 ≤ (mOut R size draw).1 % 72057594037927936 := by omega
        have oa1 : (mOut R size draw).1 % 72057594037927936 < 72057594037927936 := by omega
        have qa0 : 0 ≤ q % 72057594037927936 := by omega
        obtain ⟨q0, _, qa1⟩ := htm
        have HL1 := hide2 (mR_len R size draw site)
        have HMM : Hid ((mR R size draw site).marks = R.marks) := by show _ = _; unfold mR; split <;> rfl
        clear hm hob hbad hnb
        go_enter Try.func109, Try.ntmps109
        go_wp2_with fail
        refine (rblock_any p vc vl vm R q w HR.out HO.out q1).mono ?_
        rw [HBK.out]
        rintro e1 w1 ⟨rfl, hb1⟩
        go_wp2_with fail
        refine (rmalloc_all p vc vl vm R size draw site w1 (HR.out.below hb1) HO.out (by omega)).mono ?_
        rw [HMO.out]
        rintro e1 w2 ⟨vl', rfl, hR2, hk2, hn2⟩
        have HG2 : Hid (RGone w p vc vl vm w2 vl' vm (mR R size draw site)) := (RGone.start HR.out hb1).trans hR2 hk2 hn2 (fun _ hg => .inl hg)
        have HR2 := hide2 hR2
        clear hR2 hk2 hn2 hb1
        go_wp2_with fail
        refine (rusable_any p vc vl' vm _ q w2 HR2.out HM1.out q1).mono ?_
        rintro e1 w3 ⟨rfl, hb3⟩
        go_wp2_with fail
        refine (rusable_any p vc vl' vm _ (mOut R size draw).1 w3 (HR2.out.below hb3) HM1.out (by omega)).mono ?_
        rintro e1 w4 ⟨rfl, hb4⟩
        have hu1 := usable_bd HM1.out q
        have hu2 := usable_bd HM1.out (mOut R size draw).1
        have HG4 : Hid (RGone w p vc vl vm w4 vl' vm (mR R size draw site)) := HG2.out.trans ((HR2.out.below hb3).below hb4) (Kept.of_below (hb3.trans (hb4.mono hb3.size)) _) (fun _ hg => .inl hg) (fun _ hg => .inl hg)
        have HN : Hid (R.reN q size draw site = (min ((mR R size draw site).usable q).1 ((mR R size draw site).usable (mOut R size draw).1).1).toNat) := rfl
        have HE1 : Hid ((R.reOut q size draw).1 = (mOut R size draw).1 ∧ (R.reOut q size draw).2 = 0) := ⟨by rw [HE.out], by rw [HE.out]; exact HMO.out⟩
        clear HG2 HR2 hb3 hb4 HE
        generalize hr1 : mR R size draw site = R1 at *
        generalize (R1.usable q).1 = un at *
        generalize (R1.usable (mOut R size draw).1).1 = um at *
        generalize (mOut R size draw).1 = oq at *
        generalize R.reN q size draw site = N at *
        clear hr1
        go_wp2
        go_loopw [21] (fun i wr => ∃ (m : Nat) (vmr : Value), m ≤ N ∧ i = .int .i64 (m : Int) ∧ RGone w p vc vl vm wr vl' vmr (R1.copies (oq % 72057594037927936) (q % 72057594037927936) m)) (fun i _ => ((N : Int) - intOf i).toNat)
        case atStart => exact ⟨0, vm, by omega, rfl, HG4.out⟩
        case round =>
          obtain ⟨m, vmr, hm, rfl, hM⟩ := hrel
          have HMr := hide2 hM
          clear hM
          have hNN := HN.out
          by_cases hlt : m < N
          · have l1 : (m : Int) < un := by omega
            have l2 : (m : Int) < um := by omega
            have m0 : (0 : Int) ≤ (m : Int) := by omega
            have hS : Hid (R1.copies (oq % 72057594037927936) (q % 72057594037927936) (m + 1) = (R1.copies (oq % 72057594037927936) (q % 72057594037927936) m).mark (oq % 72057594037927936 + m) ((R1.copies (oq % 72057594037927936) (q % 72057594037927936) m).byte (q % 72057594037927936 + m))) := rfl
            have hl := (R1.copies_same (oq % 72057594037927936) (q % 72057594037927936) m).2.2.2.2
            rw [HMM.out] at hl
            have hrm : ((R1.copies (oq % 72057594037927936) (q % 72057594037927936) m).marks.length + 1) * 24 ≤ 140737488355328 := by omega
            have HOm := hide2 (HM1.out.copies (oq % 72057594037927936) (q % 72057594037927936) m)
            clear hl hNN
            generalize R1.copies (oq % 72057594037927936) (q % 72057594037927936) m = Rm at *
            go_wp2_with fail
            refine (rbyte_any p vc vl' vmr Rm (q % 72057594037927936 + m) wr HMr.out.rep HOm.out).mono ?_
            rintro e2 w5 ⟨rfl, hb5⟩
            have HG5 := hide2 (HMr.out.trans (HMr.out.rep.below hb5) (Kept.of_below hb5 _) (fun _ hg => .inl hg) (fun _ hg => .inl hg))
            clear hb5
            generalize Rm.byte (q % 72057594037927936 + m) = bt at *
            go_wp2_with fail
            refine (rmark_any p vc vl' vmr Rm (oq % 72057594037927936 + m) bt w5 HG5.out.rep hrm).mono ?_
            rintro e2 w6 ⟨vm2, rfl, hR6, hk6, hn6⟩
            have HG6 : Hid (RGone w p vc vl vm w6 vl' vm2 (Rm.mark (oq % 72057594037927936 + m) bt)) := HG5.out.trans hR6 (hk6.mono fun b _ hb => by
              rcases hb with hb | hb
              · exact .inl hb
              · exact .inr (.inr (.inr hb))) (fun _ hg => .inl hg) hn6
            clear hR6 hk6 hn6
            go_wp2
            go_roundw
            case rel => exact ⟨m + 1, vm2, by omega, by go_num, by rw [hS.out]; exact HG6.out⟩
            case measure => simp [intOf]; omega
          · obtain rfl : m = N := by omega
            by_cases l1 : un ≤ (m : Int)
            · clear hNN
              go_wp2_with fail
              refine (rfree_st p vc vl' vmr _ q site wr HMr.out.rep (HM1.out.copies _ _ _) q1 (by rw [(R1.copies_same (oq % 72057594037927936) (q % 72057594037927936) m).2.2.2.1]; have := HL1.out; omega)).mono ?_
              rintro e2 w6 ⟨vl2, rfl, hR6, hk6, hn6⟩
              have HGF := hide2 (HMr.out.trans hR6 hk6 hn6 (fun _ hg => .inl hg))
              clear hR6 hk6 hn6
              go_wp2
              go_ret2
              exact ⟨vl2, vmr, by rw [HE1.out.1, HE1.out.2]; rfl, by rw [HF.out]; exact HGF.out⟩
            · have l1' : (m : Int) < un := by omega
              have l2 : um ≤ (m : Int) := by omega
              clear hNN
              go_wp2_with fail
              refine (rfree_st p vc vl' vmr _ q site wr HMr.out.rep (HM1.out.copies _ _ _) q1 (by rw [(R1.copies_same (oq % 72057594037927936) (q % 72057594037927936) m).2.2.2.1]; have := HL1.out; omega)).mono ?_
              rintro e2 w6 ⟨vl2, rfl, hR6, hk6, hn6⟩
              have HGF := hide2 (HMr.out.trans hR6 hk6 hn6 (fun _ hg => .inl hg))
              clear hR6 hk6 hn6
              go_wp2
              go_ret2
              exact ⟨vl2, vmr, by rw [HE1.out.1, HE1.out.2]; rfl, by rw [HF.out]; exact HGF.out⟩
      · have HF : Hid (R.re q size draw site = mR R size draw site) := (if_neg hnb).trans (if_pos (.inl hm))
        have hmb : ((mOut R size draw).2 != 0) = true := by simp [hm]
        clear hm hbad hnb
        go_enter Try.func109, Try.ntmps109
        go_wp2_with fail
        refine (rblock_any p vc vl vm R q w HR.out HO.out q1).mono ?_
        rw [HBK.out]
        rintro e1 w1 ⟨rfl, hb1⟩
        go_wp2_with fail
        refine (rmalloc_all p vc vl vm R size draw site w1 (HR.out.below hb1) HO.out (by omega)).mono ?_
        rintro e1 w2 ⟨vl', rfl, hR2, hk2, hn2⟩
        go_wp2
        all_goals
          go_ret2
          exact ⟨vl', vm, by rw [HE.out]; rfl, by rw [HF.out]; exact (RGone.start HR.out hb1).trans hR2 hk2 hn2 (fun _ hg => .inl hg)⟩
    · have hb' : R.reBad q := ⟨hq, hbad⟩
      have HE : Hid (R.reOut q size draw = (0, (Ref.block R.st R.cls R.log q).2.2)) := if_pos hb'
      have HF : Hid (R.re q size draw site = R) := if_pos hb'
      have heb : ((Ref.block R.st R.cls R.log q).2.2 != 0) = true := by simp [hbad]
      clear hb' hbad
      go_enter Try.func109, Try.ntmps109
      go_wp2_with (go_at_call 120; refine (rblock_any p vc vl vm R q w HR.out HO.out q1).mono ?_; rintro e1 w1 ⟨rfl, hb1⟩)
      go_ret2
      exact ⟨vl, vm, by rw [HE.out]; rfl, by rw [HF.out]; exact RGone.start HR.out hb1⟩
end Go.Proofs.Ytjikemhmnkckcaa
/- What the document's bytes are behind marks and events. -/
namespace Go.Proofs.Ytjikemhmnkckcaa
open Go.RowKit

namespace Ref
theorem byteTo_old (marks : List (Int × Int × Int)) (m : Int × Int × Int) (addr since : Int) (n : Nat) (h : n ≤ marks.length) : byteTo (marks ++ [m]) addr since n = byteTo marks addr since n := by
  induction n with
  | zero => rfl
  | succ n ih =>
    have e : (marks ++ [m]).getD n mkNo = marks.getD n mkNo := by
      simp [List.getD_eq_getElem?_getD, List.getElem?_append_left (show n < marks.length by omega)]
    simp only [byteTo, e, ih (by omega)]
theorem byteTo_snoc (marks : List (Int × Int × Int)) (m : Int × Int × Int) (addr since : Int) :
    byteTo (marks ++ [m]) addr since (marks ++ [m]).length = if m.1 = addr ∧ since ≤ m.2.2 then m.2.1 else byteTo marks addr since marks.length := by
  rw [show (marks ++ [m]).length = marks.length + 1 by simp]
  have e : (marks ++ [m]).getD marks.length mkNo = m := by simp
  simp only [byteTo, e, byteTo_old marks m addr since marks.length (Nat.le_refl _)]
theorem sinceAt_hi (st : Int) (cls : List (Int × Int)) (log : List Ev) (addr : Int) : sinceAt st cls log addr ≤ log.length := by
  unfold sinceAt
  split
  · omega
  · have := given_hi log (Cf.slot st cls addr).1 (Cf.slot st cls addr).2; omega
theorem byteTo_none (marks : List (Int × Int × Int)) (addr since : Int) (n : Nat) (h : ∀ i, i < n → (marks.getD i mkNo).2.2 < since) : byteTo marks addr since n = 0 := by
  induction n with
  | zero => rfl
  | succ n ih =>
    simp only [byteTo]
    rw [if_neg (fun x => by have := h n (by omega); omega)]
    exact ih fun i hi => h i (by omega)
theorem byteTo_bd (marks : List (Int × Int × Int)) (addr since : Int) (n : Nat) (h : ∀ i, i < n → 0 ≤ (marks.getD i mkNo).2.1 ∧ (marks.getD i mkNo).2.1 ≤ 255) : 0 ≤ byteTo marks addr since n ∧ byteTo marks addr since n ≤ 255 := by
  induction n with
  | zero => simp [byteTo]
  | succ n ih =>
    simp only [byteTo]
    split
    · exact h n (by omega)
    · exact ih fun i hi => h i (by omega)
end Ref

/-- of the marks: bytes, and none is later than the last event -/
structure MarksOk (R : RSt) : Prop where
  byte : ∀ i, i < R.marks.length → 0 ≤ (R.marks.getD i mkNo).2.1 ∧ (R.marks.getD i mkNo).2.1 ≤ 255
  when_ : ∀ i, i < R.marks.length → (R.marks.getD i mkNo).2.2 ≤ R.log.length

theorem MarksOk.byte_bd {R : RSt} (h : MarksOk R) (addr : Int) : 0 ≤ R.byte addr ∧ R.byte addr ≤ 255 := Ref.byteTo_bd _ _ _ _ h.byte
theorem MarksOk.mark {R : RSt} (h : MarksOk R) (a b : Int) (b0 : 0 ≤ b) (b1 : b ≤ 255) : MarksOk (R.mark a b) := by
  have key : ∀ i, i < (R.mark a b).marks.length → (R.mark a b).marks.getD i mkNo = R.marks.getD i mkNo ∧ i < R.marks.length ∨ (R.mark a b).marks.getD i mkNo = (a, b, (R.log.length : Int)) := by
    intro i hi
    have hl : (R.mark a b).marks.length = R.marks.length + 1 := by simp [RSt.mark]
    by_cases e : i < R.marks.length
    · left
      refine ⟨?_, e⟩
      simp [RSt.mark, List.getD_eq_getElem?_getD, List.getElem?_append_left e]
    · right
      obtain rfl : i = R.marks.length := by omega
      simp [RSt.mark]
  refine ⟨fun i hi => ?_, fun i hi => ?_⟩
  · rcases key i hi with ⟨e, hl⟩ | e
    · rw [e]; exact h.byte i hl
    · rw [e]; exact ⟨b0, b1⟩
  · rcases key i hi with ⟨e, hl⟩ | e
    · rw [e]; exact h.when_ i hl
    · rw [e]; exact Int.le_refl _
theorem MarksOk.event {R : RSt} (h : MarksOk R) (e : Ref.Ev) : MarksOk ⟨R.st, R.rest, R.cls, R.log ++ [e], R.marks⟩ :=
  ⟨h.byte, fun i hi => by
    have := h.when_ i hi
    have hl : (R.log ++ [e]).length = R.log.length + 1 := by simp
    show (R.marks.getD i mkNo).2.2 ≤ ((R.log ++ [e]).length : Int)
    rw [hl]; omega⟩

/-- a byte that was written -/
theorem RSt.mark_byte (R : RSt) (a b addr : Int) : (R.mark a b).byte addr = if addr = a then b else R.byte addr := by
  show Ref.byteTo (R.marks ++ [(a, b, (R.log.length : Int))]) addr (Ref.sinceAt R.st R.cls R.log addr) (R.marks ++ [(a, b, (R.log.length : Int))]).length = _
  rw [Ref.byteTo_snoc]
  have hs := Ref.sinceAt_hi R.st R.cls R.log addr
  by_cases h : addr = a
  · rw [if_pos ⟨h.symm, hs⟩, if_pos h]
  · rw [if_neg (fun x => h x.1.symm), if_neg h]; rfl

theorem RSt.stores_byte (R : RSt) (a value : Int) (n : Nat) (addr : Int) : (R.stores a value n).byte addr = if a ≤ addr ∧ addr < a + n then Ref.stV value (addr - a).toNat % 256 else R.byte addr := by
  induction n with
  | zero => rw [if_neg (by omega)]; rfl
  | succ n ih =>
    show ((R.stores a value n).mark (a + n) (Ref.stV value n % 256)).byte addr = _
    rw [RSt.mark_byte, ih]
    by_cases h : addr = a + n
    · rw [if_pos h, if_pos (by omega), show (addr - a).toNat = n by omega]
    · rw [if_neg h]
      by_cases h2 : a ≤ addr ∧ addr < a + n
      · rw [if_pos h2, if_pos (by omega)]
      · rw [if_neg h2, if_neg (by omega)]
theorem RSt.moves_byte (R : RSt) (a b : Int) (n : Nat) (addr : Int) : (R.moves a b n).byte addr = if a ≤ addr ∧ addr < a + n then R.byte (b + (addr - a)) else R.byte addr := by
  induction n with
  | zero => rw [if_neg (by omega)]; rfl
  | succ n ih =>
    show ((R.moves a b n).mark (a + n) (R.byte (b + n))).byte addr = _
    rw [RSt.mark_byte, ih]
    by_cases h : addr = a + n
    · rw [if_pos h, if_pos (by omega), show b + (addr - a) = b + n by omega]
    · rw [if_neg h]
      by_cases h2 : a ≤ addr ∧ addr < a + n
      · rw [if_pos h2, if_pos (by omega)]
      · rw [if_neg h2, if_neg (by omega)]
/-- .. where what is read and what is written lie apart -/
theorem RSt.copies_byte (R : RSt) (a b : Int) (n : Nat) (hd : b + n ≤ a ∨ a + n ≤ b) (addr : Int) : (R.copies a b n).byte addr = if a ≤ addr ∧ addr < a + n then R.byte (b + (addr - a)) else R.byte addr := by
  induction n generalizing addr with
  | zero => rw [if_neg (by omega)]; rfl
  | succ n ih =>
    have ih' := ih (by omega)
    show ((R.copies a b n).mark (a + n) ((R.copies a b n).byte (b + n))).byte addr = _
    rw [RSt.mark_byte, ih', ih', if_neg (show ¬ (a ≤ b + n ∧ b + n < a + n) by omega)]
    by_cases h : addr = a + n
    · rw [if_pos h, if_pos (by omega), show b + (addr - a) = b + n by omega]
    · rw [if_neg h]
      by_cases h2 : a ≤ addr ∧ addr < a + n
      · rw [if_pos h2, if_pos (by omega)]
      · rw [if_neg h2, if_neg (by omega)]

/-- a block is given out of the slot: noughts -/
theorem RSt.byte_gives {R : RSt} (h : MarksOk R) (e : Ref.Ev) (addr : Int) (hk : 0 ≤ (Cf.slot R.st R.cls addr).1) (hg : e.gives (Cf.slot R.st R.cls addr).1 (Cf.slot R.st R.cls addr).2 = true) :
    RSt.byte ⟨R.st, R.rest, R.cls, R.log ++ [e], R.marks⟩ addr = 0 := by
  show Ref.byteTo R.marks addr (Ref.sinceAt R.st R.cls (R.log ++ [e]) addr) R.marks.length = 0
  refine Ref.byteTo_none _ _ _ _ fun i hi => ?_
  have := h.when_ i hi
  unfold Ref.sinceAt
  rw [if_neg (by omega), Ref.given_snoc, if_pos hg]
  omega
/-- any other event leaves the byte -/
theorem RSt.byte_event (R : RSt) (e : Ref.Ev) (addr : Int) (hg : 0 ≤ (Cf.slot R.st R.cls addr).1 → e.gives (Cf.slot R.st R.cls addr).1 (Cf.slot R.st R.cls addr).2 = false) :
    RSt.byte ⟨R.st, R.rest, R.cls, R.log ++ [e], R.marks⟩ addr = R.byte addr := by
  show Ref.byteTo R.marks addr (Ref.sinceAt R.st R.cls (R.log ++ [e]) addr) R.marks.length = Ref.byteTo R.marks addr (Ref.sinceAt R.st R.cls R.log addr) R.marks.length
  congr 1
  unfold Ref.sinceAt
  by_cases hk : (Cf.slot R.st R.cls addr).1 < 0
  · rw [if_pos hk, if_pos hk]
  · rw [if_neg hk, if_neg hk, Ref.given_snoc, if_neg (by rw [hg (by omega)]; decide)]
end Go.Proofs.Ytjikemhmnkckcaa
