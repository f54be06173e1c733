import Derived.Test.YtjikemhmnkckcabJ17
namespace Go.Proofs.Ytjikemhmnkckcab
open Go.RowKit

theorem Kept.trans' {a b c : World} {S T : Nat → Prop} (h : Kept a b S) (g : Kept b c T) (ht : ∀ k, k < a.heap.size → T k → S k) : Kept a c S :=
  ⟨g.os.trans h.os, g.tape.trans h.tape, g.output.trans h.output, Nat.le_trans h.size g.size, fun k hk hs => (g.block k (Nat.lt_of_lt_of_le hk h.size) (fun x => hs (ht k hk x))).trans (h.block k hk hs)⟩
theorem mR_len (R : RSt) (size draw site : Int) : (mR R size draw site).log.length ≤ R.log.length + 1 := by unfold mR; split <;> simp

end Go.Proofs.Ytjikemhmnkckcab
/- The document's Realloc. -/
namespace Go.Proofs.Ytjikemhmnkckcab
open Go.RowKit

def RSt.copies (R : RSt) (a b : Int) : Nat → RSt
  | 0 => R
  | i + 1 => (R.copies a b i).mark (a + i) ((R.copies a b i).byte (b + i))
theorem RSt.copies_same (R : RSt) (a b : Int) (i : Nat) : (R.copies a b i).st = R.st ∧ (R.copies a b i).rest = R.rest ∧ (R.copies a b i).cls = R.cls ∧ (R.copies a b i).log = R.log ∧ (R.copies a b i).marks.length = R.marks.length + i := by
  induction i with
  | zero => exact ⟨rfl, rfl, rfl, rfl, rfl⟩
  | succ i ih => exact ⟨ih.1, ih.2.1, ih.2.2.1, ih.2.2.2.1, by show ((R.copies a b i).marks ++ [(a + i, (R.copies a b i).byte (b + i), ((R.copies a b i).log.length : Int))]).length = _; rw [List.length_append, ih.2.2.2.2]; rfl⟩
theorem ROk.same {R R' : RSt} (h : ROk R) (h1 : R'.st = R.st) (h2 : R'.rest = R.rest) (h3 : R'.cls = R.cls) (h4 : R'.log = R.log) : ROk R' :=
  ⟨by rw [h1, h2, h3]; exact h.conf, fun i => by rw [h4]; exact h.size0 i, fun i => by rw [h4]; exact h.size1 i⟩
theorem ROk.copies {R : RSt} (h : ROk R) (a b : Int) (i : Nat) : ROk (R.copies a b i) :=
  h.same (R.copies_same a b i).1 (R.copies_same a b i).2.1 (R.copies_same a b i).2.2.1 (R.copies_same a b i).2.2.2.1

theorem getD_snoc (log : List Ref.Ev) (e : Ref.Ev) (i : Nat) : (log ++ [e]).getD i Ref.Ev.no = log.getD i Ref.Ev.no ∨ (log ++ [e]).getD i Ref.Ev.no = e := by
  rcases Nat.lt_trichotomy i log.length with h | h | h
  · exact .inl (Ref.getD_old log e i h)
  · subst h; exact .inr (Ref.getD_new log e)
  · left
    simp [List.getD_eq_getElem?_getD, List.getElem?_eq_none (show (log ++ [e]).length ≤ i by simp; omega), List.getElem?_eq_none (show log.length ≤ i by omega)]
theorem mR_rok {R : RSt} (h : ROk R) (size draw site : Int) : ROk (mR R size draw site) := by
  rcases mOut_cases R h size draw with ⟨_, hm⟩ | ⟨k, _, _, _, _, hm⟩ | ⟨k, s, h1, hk, hkl, hf, hs, hz, hm⟩
  · unfold mR; rw [hm]; exact h
  · unfold mR; rw [hm]; exact h
  · rw [mR_ok hk hf (by rw [hm])]
    have hb := gsz_bd h1 hz (h.conf.g1 k hkl)
    refine ⟨h.conf, fun i => ?_, fun i => ?_⟩
    · rcases getD_snoc R.log ⟨false, k, s, Ref.tagOf R.log k s draw, Ref.gsz size, site⟩ i with e | e
      · show 0 ≤ ((R.log ++ [_]).getD i Ref.Ev.no).size
        rw [e]; exact h.size0 i
      · show 0 ≤ ((R.log ++ [_]).getD i Ref.Ev.no).size
        rw [e]; exact hb.1
    · rcases getD_snoc R.log ⟨false, k, s, Ref.tagOf R.log k s draw, Ref.gsz size, site⟩ i with e | e
      · show ((R.log ++ [_]).getD i Ref.Ev.no).size ≤ 8
        rw [e]; exact h.size1 i
      · show ((R.log ++ [_]).getD i Ref.Ev.no).size ≤ 8
        rw [e]; exact hb.2
theorem usable_bd {R : RSt} (h : ROk R) (q : Int) : 0 ≤ (R.usable q).1 ∧ (R.usable q).1 ≤ 128 := by
  unfold RSt.usable
  split
  · simp
  · have h0 := h.size0 (Ref.given R.log (Ref.block R.st R.cls R.log q).1 (Ref.block R.st R.cls R.log q).2.1).toNat
    have h1 := h.size1 (Ref.given R.log (Ref.block R.st R.cls R.log q).1 (Ref.block R.st R.cls R.log q).2.1).toNat
    constructor
    · show 0 ≤ 16 * _
      omega
    · show 16 * _ ≤ 128
      omega

/-- what Free makes of it -/
def fR (R : RSt) (q site : Int) : RSt :=
  if q ≠ 0 ∧ (Ref.block R.st R.cls R.log q).2.2 = 0 then ⟨R.st, R.rest, R.cls, R.log ++ [⟨true, (Ref.block R.st R.cls R.log q).1, (Ref.block R.st R.cls R.log q).2.1, 0, 0, site⟩], R.marks⟩ else R
/-- how many bytes go along -/
def RSt.reN (R : RSt) (q size draw site : Int) : Nat := (min ((mR R size draw site).usable q).1 ((mR R size draw site).usable (mOut R size draw).1).1).toNat
def RSt.reBad (R : RSt) (q : Int) : Prop := q ≠ 0 ∧ (Ref.block R.st R.cls R.log q).2.2 ≠ 0
instance (R : RSt) (q : Int) : Decidable (R.reBad q) := by unfold RSt.reBad; infer_instance
def RSt.reOut (R : RSt) (q size draw : Int) : Int × Int := if R.reBad q then (0, (Ref.block R.st R.cls R.log q).2.2) else mOut R size draw
def RSt.re (R : RSt) (q size draw site : Int) : RSt :=
  if R.reBad q then R else if (mOut R size draw).2 ≠ 0 ∨ q = 0 then mR R size draw site
  else fR ((mR R size draw site).copies ((mOut R size draw).1 % 72057594037927936) (q % 72057594037927936) (R.reN q size draw site)) q site
end Go.Proofs.Ytjikemhmnkckcab
namespace Go.Proofs.Ytjikemhmnkckcab
open Go.RowKit

end Go.Proofs.Ytjikemhmnkckcab
