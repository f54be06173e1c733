import Derived.Test.YtjikemhmnkckcabGreatJ50
import Derived.Deep.MidRow
namespace Go.Proofs.YtjikemhmnkckcabGreat
open Go.RowKit
theorem iInp_zero (inp : ByteArray) : iInp inp 0 = inp := by
 unfold iInp;apply ByteArray.ext;simp
def dataCells (d : ByteArray) (n m : Nat) : List IC := (List.range n).map fun t => if t < m then ⟨⟨0, byteAt d t⟩, 0⟩ else IC.no
theorem dataCells_len (d : ByteArray) (n m : Nat) : (dataCells d n m).length = n := by unfold dataCells; simp
theorem dataCells_getD (d : ByteArray) (n m t : Nat) (ht : t < n) : (dataCells d n m).getD t IC.no = if t < m then ⟨⟨0, byteAt d t⟩, 0⟩ else IC.no := by
 unfold dataCells;rw [List.getD_eq_getElem?_getD, List.getElem?_map, List.getElem?_range ht]; rfl
theorem dataCells_zero (d : ByteArray) (n : Nat) : dataCells d n 0 = List.replicate n IC.no := by
 unfold dataCells;apply List.ext_getElem?;intro t;rw [List.getElem?_map, List.getElem?_replicate]
 by_cases h : t < n
 ·rw [List.getElem?_range h, if_pos h]; simp
 ·rw [List.getElem?_eq_none (by simp; omega), if_neg h]; rfl
theorem dataCells_step (d : ByteArray) (n m : Nat) (hm : m < n) : ((dataCells d n m).flatMap icCells).set (m * 3 + 1) (.int .i64 (byteAt d m)) = (dataCells d n (m + 1)).flatMap icCells := by
 rw [flat_set icCells 3 (fun _ => rfl) (dataCells d n m) IC.no m 1 (by rw [dataCells_len]; exact hm) (by omega) ⟨⟨0, byteAt d m⟩, 0⟩ (.int .i64 (byteAt d m)) (by rw [dataCells_getD d n m m hm, if_neg (by omega)]; rfl)]
 congr 1
 apply List.ext_getElem?;intro t;rw [List.getElem?_set, dataCells_len]
 by_cases h : t < n
 ·have e1 : ∀ k, (dataCells d n k)[t]? = some (if t < k then ⟨⟨0, byteAt d t⟩, 0⟩ else IC.no) := fun k => by unfold dataCells; rw [List.getElem?_map, List.getElem?_range h]; rfl
  rw [e1, e1]
  by_cases e : m = t
  ·subst e; rw [if_pos rfl, if_pos hm, if_pos (by omega)]
  ·rw [if_neg e]
   by_cases c1 : t < m
   ·rw [if_pos c1, if_pos (by omega)]
   ·rw [if_neg c1, if_neg (by omega)]
 ·rw [if_neg (by omega), List.getElem?_eq_none (by rw [dataCells_len]; omega), List.getElem?_eq_none (by rw [dataCells_len]; omega)]
def outI (S : IS) : List Value := [.int .i64 S.en, .int .i64 S.ex, .int .i64 S.steps, .int .i64 S.pc, .int .i64 S.drawn, .string S.out] ++ noRep
theorem icls_some (st : Int) (cls : List (Int × Int)) : ∃ cs, ClsOk st cls cls.length cs := by
 refine ⟨(List.range cls.length).map fun k => ⟨16 * Cf.gran st cls k, 16 * Cf.gr cls k, List.replicate (Cf.sl cls k).toNat GSlot.virgin, 0⟩, by simp, ?_, ?_, ?_⟩ <;> (intro k hk; simp [List.getD_eq_getElem?_getD, hk])
def zOutI : List Value := [.int .i64 0, .int .i64 0, .int .i64 0, .int .i64 0, .int .i64 0, .string ⟨#[]⟩, .int .i64 0, .int .i64 0, .int .i64 0, .int .i64 0, .int .i64 0, .int .i64 0, .int .i64 0, .int .i64 0, .int .i64 0, .slice none 0 0]
structure IGo (F : IFix) (wB w : World) (f : Int) (Sf : IS) (vT vF : Value) (V : List Value) (col : Nat → Nat) (S : IS) (k : Nat) : Prop where
 rep : IRep F wB w vT vF V col S
 en : S.en = 0
 s1 : S.steps ≤ 4096
 head : ∃ M, Head F S M
 comes : iRun F f k S = Sf
 k1 : 4097 ≤ S.steps + k
 t1 : S.T.length ≤ S.steps + 2
 f1 : S.F.length ≤ S.steps
 o1 : S.out.size ≤ S.steps
structure IEnd (F : IFix) (wB w : World) (Sf : IS) (vT vF : Value) (V : List Value) (col : Nat → Nat) (S : IS) : Prop where
 rep : IRep F wB w vT vF V col S
 en : S.en ≠ 0
 is : S = Sf ∨ (Sf.en = 102 ∧ (S.en = 101 ∨ S.en = 102))
structure IIn (F : IFix) (wB w : World) (f : Int) (Sf : IS) : Prop where
 ex : (∃ vT vF V col S k, IGo F wB w f Sf vT vF V col S k) ∨ (∃ vT vF V col S, IEnd F wB w Sf vT vF V col S)
def iMeas (w : World) (mb : Nat) : Nat := match w.cell? ⟨mb, 26, none⟩, w.cell? ⟨mb, 28, none⟩ with
 | some (.int _ e), some (.int _ k) => if e = 0 then 1 + (4097 - k.toNat) else 0
 | _, _ => 0
section
variable {F : IFix} {wB w w' : World} {f : Int} {Sf S : IS} {vT vF : Value} {V : List Value} {col : Nat → Nat} {k : Nat}
theorem IRep.meas (h : IRep F wB w vT vF V col S) : iMeas w F.mb = if S.en = 0 then 1 + (4097 - S.steps) else 0 := by
 unfold iMeas; rw [h.c26, h.c28]; simp
theorem IGo.over (h : IGo F wB w f Sf vT vF V col S k) (hp : F.code.length ≤ S.next) (hr : IRep F wB w' vT vF V col ((S.stands S.next).ends 2)) : IIn F wB w' f Sf ∧ iMeas w' F.mb < iMeas w F.mb := by
 have hk : 0 < k := by have := h.s1; have := h.k1; omega
 obtain ⟨k', rfl⟩ : ∃ k', k = k' + 1 := ⟨k - 1, by omega⟩
 have e := h.comes;have hi : iRun F f (k' + 1) S = if S.en ≠ 0 then S else if F.code.length ≤ S.next then (S.stands S.next).ends 2 else if f ≤ S.steps then (S.stands S.next).ends 3 else iRun F f k' (iStep F S) := rfl
 rw [hi, if_neg (fun x => x h.en), if_pos hp] at e;refine ⟨⟨.inr ⟨_, _, _, _, _, hr, by show (2 : Int) ≠ 0; decide, .inl e⟩⟩, ?_⟩;rw [hr.meas, h.rep.meas, if_neg (by show ¬ (2 : Int) = 0; decide), if_pos h.en]; omega
theorem IGo.outf (h : IGo F wB w f Sf vT vF V col S k) (hp : ¬ F.code.length ≤ S.next) (hf : f ≤ S.steps) (hr : IRep F wB w' vT vF V col ((S.stands S.next).ends 3)) : IIn F wB w' f Sf ∧ iMeas w' F.mb < iMeas w F.mb := by
 have hk : 0 < k := by have := h.s1; have := h.k1; omega
 obtain ⟨k', rfl⟩ : ∃ k', k = k' + 1 := ⟨k - 1, by omega⟩
 have e := h.comes;have hi : iRun F f (k' + 1) S = if S.en ≠ 0 then S else if F.code.length ≤ S.next then (S.stands S.next).ends 2 else if f ≤ S.steps then (S.stands S.next).ends 3 else iRun F f k' (iStep F S) := rfl
 rw [hi, if_neg (fun x => x h.en), if_neg hp, if_pos hf] at e;refine ⟨⟨.inr ⟨_, _, _, _, _, hr, by show (3 : Int) ≠ 0; decide, .inl e⟩⟩, ?_⟩;rw [hr.meas, h.rep.meas, if_neg (by show ¬ (3 : Int) = 0; decide), if_pos h.en]; omega
theorem IGo.next (h : IGo F wB w f Sf vT vF V col S k) (hp : ¬ F.code.length ≤ S.next) (hf : ¬ f ≤ S.steps) (hs : S.steps < 4096) (ds : List Int) (hd : ds.length = F.nd) (n : Int) (hx : (F.code.getD S.next Ins.no).may n = true)
 (hD : IDone F wB w' (iDo F ((S.stands S.next).stepped.goes (S.next + 1)) (F.code.getD S.next Ins.no))) : IIn F wB w' f Sf ∧ iMeas w' F.mb < iMeas w F.mb := by
 have hk : 0 < k := by have := h.s1; have := h.k1; omega
 obtain ⟨k', rfl⟩ : ∃ k', k = k' + 1 := ⟨k - 1, by omega⟩
 have e := h.comes;have hi : iRun F f (k' + 1) S = if S.en ≠ 0 then S else if F.code.length ≤ S.next then (S.stands S.next).ends 2 else if f ≤ S.steps then (S.stands S.next).ends 3 else iRun F f k' (iStep F S) := rfl
 rw [hi, if_neg (fun x => x h.en), if_neg hp, if_neg hf] at e;obtain ⟨M, hM⟩ := h.head;have hst := hM.step ds hd n hx;have hsm := small_do (F := F) (S := (S.stands S.next).stepped.goes (S.next + 1)) (F.code.getD S.next Ins.no);change IDone F wB w' (iStep F S) at hD;change Small _ (iStep F S) at hsm;obtain ⟨vT', vF', V', col', S', hr, hS⟩ := hD;have q1 := hsm.T;have q2 := hsm.F;have q3 := hsm.out;have q4 := hsm.steps;change (iStep F S).T.length ≤ S.T.length + 1 at q1;change (iStep F S).F.length ≤ S.F.length + 1 at q2;change (iStep F S).out.size ≤ S.out.size + 1 at q3;change (iStep F S).steps = S.steps + 1 at q4;have t1 := h.t1;have f1 := h.f1;have o1 := h.o1;have k1 := h.k1;rw [hr.meas, h.rep.meas, if_pos h.en]
 by_cases e0 : (iStep F S).en = 0
 ·obtain rfl : S' = iStep F S := by
   rcases hS with hS | ⟨h1, -⟩
   ·exact hS
   ·rw [e0] at h1; exact absurd h1 (by decide)
  refine ⟨⟨.inl ⟨_, _, _, _, _, k', hr, e0, by omega, ?_, e, by omega, by omega, by omega, by omega⟩⟩, by rw [if_pos e0]; omega⟩
  rcases hst with h1 | ⟨h1, -⟩ | ⟨-, h1⟩
  ·rw [e0] at h1; exact absurd h1 (by decide)
  ·exact absurd e0 h1
  ·exact ⟨_, h1⟩
 ·rw [iRun_en f e0] at e;subst e
  have hne : S'.en ≠ 0 := by
   rcases hS with rfl | ⟨-, h1 | h1⟩
   ·exact e0
   ·rw [h1]; decide
   ·rw [h1]; decide
  refine ⟨⟨.inr ⟨_, _, _, _, S', hr, hne, hS⟩⟩, by rw [if_neg hne]; omega⟩
theorem IGo.good (h : IGo F wB w f Sf vT vF V col S k) : IGood F ((S.stands S.next).stepped.goes (S.next + 1)) := by
 obtain ⟨M, hM⟩ := h.head;obtain ⟨B, G, hL⟩ := hM.begun;exact hL.good
theorem IRep.outcome (h : IRep F wB w vT vF V col S) : w.rangeAt F.mb 26 (outI S) := by
 obtain ⟨r0, r1, r2, r3, r4, r5, r6, r7, hr, hb⟩ := h.blk8;intro j v hv;refine hb.cell ?_
 have e : iCells F vT vF [r0, r1, r2, r3, r4, r5, r6, r7] (iInp F.inp S.heard) ((F.nd : Int) - S.drawn) S.next S.en S.ex S.steps S.pc S.drawn S.out =
  [.int .i64 F.st, .int .i64 F.rest, .slice F.ca F.cls.length F.ccap, .string F.data, .slice F.ia F.code.length F.icap, vT, vF, .int .i64 (r0.of : Int), .int .i64 r0.n, .int .i64 (r1.of : Int), .int .i64 r1.n, .int .i64 (r2.of : Int), .int .i64 r2.n, .int .i64 (r3.of : Int), .int .i64 r3.n, .int .i64 (r4.of : Int), .int .i64 r4.n, .int .i64 (r5.of : Int), .int .i64 r5.n, .int .i64 (r6.of : Int), .int .i64 r6.n, .int .i64 (r7.of : Int), .int .i64 r7.n, .string (iInp F.inp S.heard), .int .i64 ((F.nd : Int) - S.drawn), .int .i64 S.next] ++ outI S := rfl
 rw [e, List.getElem?_append_right (by simp)];simp only [List.length_cons, List.length_nil];rw [show 26 + j - (0 + 1 + 1 + 1 + 1 + 1 + 1 + 1 + 1 + 1 + 1 + 1 + 1 + 1 + 1 + 1 + 1 + 1 + 1 + 1 + 1 + 1 + 1 + 1 + 1 + 1 + 1) = j by omega];exact hv
theorem irow_done {w0 : World} (h : IRep F wB w vT vF V col S) (ho : Blk wB (w0.heap.size + 1) 28 zOutI) (hb : Below w0.heap.size w0 wB) :
 Blk w (w0.heap.size + 1) 28 zOutI ∧ Below w0.heap.size w0 (w.setRow (w0.heap.size + 1) (outI S).toArray) ∧ (outI S).toArray.all (·.oneCell') = true := by
 have hl := ho.lt;have hbz : Below w0.heap.size w0 w := hb.trans (h.below.mono hb.size);refine ⟨ho.below h.below hl, hbz.trans ⟨rfl, rfl, rfl, by simp [World.setRow], fun k hk => setRow_other w _ k _ (by omega)⟩, ?_⟩;unfold outI noRep;simp [Value.oneCell']
end
theorem irep_start (F : IFix) (wB w w' : World) (cb n : Nat) (c : List IC) (hc : c.length = n) (hB : Below wB.heap.size wB w)
 (hmb : Blk w F.mb 110 (iC F (iBeg c) vNo vNo)) (hcb : Blk w cb 115 (c.flatMap icCells)) (h1 : wB.heap.size ≤ F.mb) (h2 : wB.heap.size ≤ cb) (hne : cb ≠ F.mb)
 (hi : IRow wB F.ia F.icap F.code) (hcr : CRow wB F.ca F.ccap F.cls)
 (hw : w' = (w.alloc (.cells #[.int .i64 (-1), .int .i64 (-1), .bool false, .slice none 0 0, .int .i64 (-1), .int .i64 (-1), .bool true, .slice (some ⟨cb, 0, none⟩) n n] 113)).setCell ⟨F.mb, 5, none⟩ (.slice (some ⟨w.heap.size, 0, none⟩) 2 2)) :
 ∃ col, IRep F wB w' (.slice (some ⟨w.heap.size, 0, none⟩) 2 2) vNo [vNo, .slice (some ⟨cb, 0, none⟩) n n] col (iBeg c) := by
 have hml := hmb.lt;have hcl := hcb.lt;obtain ⟨wa, hwa⟩ : ∃ wa, wa = w.alloc (.cells #[.int .i64 (-1), .int .i64 (-1), .bool false, .slice none 0 0, .int .i64 (-1), .int .i64 (-1), .bool true, .slice (some ⟨cb, 0, none⟩) n n] 113) := ⟨_, rfl⟩
 have hba : Below w.heap.size w wa := by rw [hwa]; exact (Below.refl _ _).alloc (Nat.le_refl _) _
 have hbt : Blk wa w.heap.size 113 [.int .i64 (-1), .int .i64 (-1), .bool false, .slice none 0 0, .int .i64 (-1), .int .i64 (-1), .bool true, .slice (some ⟨cb, 0, none⟩) n n] := by rw [hwa]; exact Blk.alloc _ _ _
 rw [← hwa] at hw;have hk : Kept wa w' (· = F.mb) := by rw [hw]; exact (Kept.refl wa (· = F.mb)).setCell _ _ rfl
 have hwl : wa.heap.size = w.heap.size + 1 := by rw [hwa, World.size_alloc]
 have hbt' : Blk w' w.heap.size 113 [.int .i64 (-1), .int .i64 (-1), .bool false, .slice none 0 0, .int .i64 (-1), .int .i64 (-1), .bool true, .slice (some ⟨cb, 0, none⟩) n n] := hk.blk hbt (by omega);have hcb' : Blk w' cb 115 (c.flatMap icCells) := hk.blk (hcb.below hba hcl) hne
 have hmb' : Blk w' F.mb 110 (iC F (iBeg c) (.slice (some ⟨w.heap.size, 0, none⟩) 2 2) vNo) := by
  rw [hw];exact (hmb.below hba hml).setCell 5 (.slice (some ⟨w.heap.size, 0, none⟩) 2 2)
 refine ⟨fun b => if b = F.mb then 0 else if b = w.heap.size then 1 else 4, hmb', ⟨rfl, .inr ⟨w.heap.size, 2, _, rfl, Nat.zero_le _, hbt', Nat.le_refl _, by simp [maxLen], rfl, rfl⟩⟩, World.ownsRow_nil _ _ _ _, rfl, rfl, ?_, ?_, h1, ⟨by simp, ?_, ?_⟩, hi, hcr, rfl, Nat.zero_le _, Nat.zero_le _⟩
 ·intro i i1 i2;change i < 2 at i2;obtain rfl : i = 1 := by omega
  exact ⟨cb, by show Value.slice _ _ _ = Value.slice _ c.length c.length; rw [hc], hcb', h2, by rw [if_neg hne, if_neg (by omega)]⟩
 ·exact kept_below (hB.trans (hba.mono hB.size)) hk (fun b e => by rw [e]; exact h1)
 ·intro b hb;simp [Value.ownBlock] at hb;subst hb;have := hB.size;exact ⟨by rw [if_neg (by omega), if_pos rfl], this⟩
 ·intro b hb
  cases hb
section
variable {F : IFix} {S S' : IS}
theorem num_en5 (h : S.en ≠ 5) (k : Nat) : (S.num k).en ≠ 5 := by
 unfold IS.num; split
 ·exact h
 ·show (102 : Int) ≠ 5; decide
theorem malloc_en5 (h : S.en ≠ 5) (n : Int) : (S.malloc F n).en ≠ 5 := by
 unfold IS.malloc
 split
 ·exact h
 ·split
  ·exact h
  ·exact h
theorem ido_en5 (h : S.en ≠ 5) (x : Ins) : (iDo F S x).en ≠ 5 := by
 have h102 : ∀ S1 : IS, (S1.ends 102).en ≠ 5 := fun S1 => by show (102 : Int) ≠ 5; decide
 have h4 : ∀ S1 : IS, (S1.ends 4).en ≠ 5 := fun S1 => by show (4 : Int) ≠ 5; decide
 unfold iDo
 by_cases h0 : x.op = 0
 ·rw [if_pos h0];exact num_en5 (S := S.ends 2) (by show (2 : Int) ≠ 5; decide) x.a.toNat
 rw [if_neg h0]
 by_cases h1 : x.op = 1
 ·rw [if_pos h1]; exact h
 rw [if_neg h1]
 by_cases h6 : x.op = 6
 ·rw [if_pos h6]; exact h
 rw [if_neg h6]
 by_cases h7 : x.op = 7
 ·rw [if_pos h7];unfold iZero
  split
  ·exact h
  ·split
   ·exact num_en5 h x.a.toNat
   ·exact num_en5 h x.a.toNat
 rw [if_neg h7]
 by_cases h8 : x.op = 8
 ·rw [if_pos h8]; exact h
 rw [if_neg h8]
 by_cases h9 : x.op = 9
 ·rw [if_pos h9]; exact num_en5 h x.a.toNat
 rw [if_neg h9]
 by_cases h10 : x.op = 10
 ·rw [if_pos h10]; exact h
 rw [if_neg h10]
 by_cases h11 : x.op = 11
 ·rw [if_pos h11];unfold iMalloc
  split
  ·exact malloc_en5 (S := S.drew.num x.b.toNat) (num_en5 (S := S.drew) h x.b.toNat) _
  ·exact h4 S
 rw [if_neg h11]
 by_cases h12 : x.op = 12
 ·rw [if_pos h12];unfold iFree
  split
  ·exact h
  ·split
   ·exact h
   ·exact h102 S
 rw [if_neg h12]
 by_cases h13 : x.op = 13
 ·rw [if_pos h13];unfold iRealloc
  split
  ·split
   ·show (iGrow F (S.drew.num x.c.toNat) (iv S.r x.b.toNat) (iv S.r x.c.toNat).n).en ≠ 5;unfold iGrow
    split
    ·exact malloc_en5 (num_en5 (S := S.drew) h x.c.toNat) _
    ·exact malloc_en5 (S := S.drew.num x.c.toNat) (num_en5 (S := S.drew) h x.c.toNat) (iv S.r x.c.toNat).n
   ·exact h102 S.drew
  ·exact h4 S
 rw [if_neg h13]
 by_cases h14 : x.op = 14
 ·rw [if_pos h14];unfold iUsable
  split
  ·exact h
  ·exact h102 S
 rw [if_neg h14]
 by_cases h15 : x.op = 15
 ·rw [if_pos h15];unfold iLoad
  split
  ·split
   ·exact h
   ·exact h102 S
  ·exact h102 S
 rw [if_neg h15]
 by_cases h16 : x.op = 16
 ·rw [if_pos h16];unfold iByte
  split
  ·split
   ·exact h102 S
   ·exact h
  ·exact h102 S
 rw [if_neg h16]
 by_cases h17 : x.op = 17
 ·rw [if_pos h17];unfold iStore
  split
  ·exact h
  ·exact h102 S
 rw [if_neg h17]
 by_cases h18 : x.op = 18
 ·rw [if_pos h18];unfold iPut1
  split
  ·exact num_en5 h x.b.toNat
  ·exact h102 S
 rw [if_neg h18]
 by_cases h19 : x.op = 19
 ·rw [if_pos h19];unfold iMove
  split
  ·exact h102 S
  ·split
   ·exact h
   ·split
    ·exact h102 S
    ·split
     ·exact h
     ·exact h102 S
 rw [if_neg h19];unfold iSums
 split
 ·exact h
 ·exact h102 S
theorem irun_en5 (f : Int) (k : Nat) (S : IS) (h : S.en ≠ 5) : (iRun F f k S).en ≠ 5 := by
 induction k generalizing S with
 | zero => exact h
 | succ k ih =>
   have hi : iRun F f (k + 1) S = if S.en ≠ 0 then S else if F.code.length ≤ S.next then (S.stands S.next).ends 2 else if f ≤ S.steps then (S.stands S.next).ends 3 else iRun F f k (iStep F S) := rfl
   rw [hi]
   split
   ·exact h
   ·split
    ·show (2 : Int) ≠ 5; decide
    ·split
     ·show (3 : Int) ≠ 5; decide
     ·exact ih _ (ido_en5 (S := (S.stands S.next).stepped.goes (S.next + 1)) h _)
end
def IMeans (S : IS) (M : MS) : Prop := S.en = 101 ∨ S.en = 102 ∨ (Ends S M ∧ S.en ≠ 5)
def mBegin (st rest : Int) (cls : List (Int × Int)) (d : ByteArray) : MS := ⟨(⟨st, rest, cls, [], []⟩ : RSt).lays d d.size, [0, 0, 0, 0, 0, 0, 0, 0], 0, 0, ⟨#[]⟩, 0, 0, 0, 0, 0, Rpt.only 0⟩
end Go.Proofs.YtjikemhmnkckcabGreat
