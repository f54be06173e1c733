import Derived.Test.YtjikemhmnkckcabJ9
import Derived.Test.YtjikemhmnkckcabJ16
import Derived.Test.YtjikemhmnkckcabJ15
namespace Go.Proofs.Ytjikemhmnkckcab
open Go.RowKit
attribute [local go_sem ↓] Go.wp_at_zero Go.wp_at_succ

set_option maxHeartbeats 400000 in
theorem num_any (e : Int) (w : World) : Calls Try.prog 10 #[.int .i64 e] w fun e' w' => e' = .returned (.int .i64 e) ∧ w = w' := by
  go_enter Try.func10, Try.ntmps10
  go_wp2
  go_ret
  exact ⟨rfl, rfl⟩

def WFoot (q ph : Nat) (gc : Value) (bb : Nat) (G : GSt) (pr : Nat) (vc vl vm : Value) (vp : Value) (b : Nat) : Prop := b = q ∨ GFoot ph gc bb G b ∨ RFoot pr vc vl vm b ∨ vp.ownBlock = some b

end Go.Proofs.Ytjikemhmnkckcab
namespace Go.Proofs.Ytjikemhmnkckcab
open Go.RowKit

theorem hide {p : Prop} (h : p) : Hid p := h
theorem unhide {p : Prop} (h : Hid p) : p := h

end Go.Proofs.Ytjikemhmnkckcab
namespace Go.Proofs.Ytjikemhmnkckcab
open Go.RowKit

/-- the pointer that a step speaks of -/
def ptrOf (ps : List Int) (i off : Int) : Int := if i < 0 ∨ ps.length = 0 then off else wrap64 (ps.getD (i % ps.length).toNat 0 + off)
theorem wrap64_bd (x : Int) : -9223372036854775808 ≤ wrap64 x ∧ wrap64 x ≤ 9223372036854775807 := by unfold wrap64; omega
theorem ptrOf_bd (ps : List Int) (i off : Int) (h : off ≤ 9223372036854775807) : ptrOf ps i off ≤ 9223372036854775807 := by
  unfold ptrOf; split
  · exact h
  · exact (wrap64_bd _).2

theorem info_int : (Try.prog.info? 3).map (fun i => (i.zero, i.size, i.bytes)) = some (some (.int .i64 0), 1, 8) := by kernel_rfl

end Go.Proofs.Ytjikemhmnkckcab
/- The document's Move. -/
namespace Go.Proofs.Ytjikemhmnkckcab
open Go.RowKit

def RSt.moves (R : RSt) (a b : Int) : Nat → RSt
  | 0 => R
  | i + 1 => (R.moves a b i).mark (a + i) (R.byte (b + i))
theorem RSt.moves_same (R : RSt) (a b : Int) (i : Nat) : (R.moves a b i).st = R.st ∧ (R.moves a b i).rest = R.rest ∧ (R.moves a b i).cls = R.cls ∧ (R.moves a b i).log = R.log ∧ (R.moves a b i).marks.length = R.marks.length + i := by
  induction i with
  | zero => exact ⟨rfl, rfl, rfl, rfl, rfl⟩
  | succ i ih => exact ⟨ih.1, ih.2.1, ih.2.2.1, ih.2.2.2.1, by show ((R.moves a b i).marks ++ [(a + i, R.byte (b + i), ((R.moves a b i).log.length : Int))]).length = _; rw [List.length_append, ih.2.2.2.2]; rfl⟩
def RSt.moveErr (R : RSt) (to from_ n : Int) : Int := if (R.access from_ n).1 ≠ 0 then (R.access from_ n).1 else (R.access to n).1
def RSt.move (R : RSt) (to from_ n : Int) : RSt := if R.moveErr to from_ n = 0 then R.moves (to % 72057594037927936) (from_ % 72057594037927936) n.toNat else R

/-- the bytes that are held -/
structure Held (w : World) (R : RSt) (b : Int) (m : Nat) (hv : Value) (wr : World) : Prop where
  bel : Below w.heap.size w wr
  row : wr.ownsRow 0 3 1 hv m ((List.range m).map fun j : Nat => Value.int .i64 (R.byte (b + (j : Int))))
  lo : ∀ g, hv.ownBlock = some g → w.heap.size ≤ g
theorem Held.grow {w wr w2 : World} {R : RSt} {b : Int} {m : Nat} {hv : Value} (h : Held w R b m hv wr) (hb2 : Below wr.heap.size wr w2) {cs : Array Value} {t : TypeId} {w7 : World} {gg cap : Nat}
    (hown : w7.ownsRow 0 3 1 (.slice (some ⟨gg, 0, none⟩) (m + 1) cap) (m + 1) (((List.range m).map fun j : Nat => Value.int .i64 (R.byte (b + (j : Int)))) ++ [.int .i64 (R.byte (b + m))]))
    (hgrow : (w2.alloc (.cells cs t)).grownBy w7 hv.ownBlock) (hat : hv.ownBlock = some gg ∨ gg = w2.heap.size + 1) : Held w R b (m + 1) (.slice (some ⟨gg, 0, none⟩) (m + 1) cap) w7 := by
  have h1 := h.bel.size
  have h2 := hb2.size
  have h3 := hgrow.size
  rw [World.size_alloc] at h3
  refine ⟨⟨hgrow.os.trans (hb2.os.trans h.bel.os), hgrow.tape.trans (hb2.tape.trans h.bel.tape), hgrow.output.trans (hb2.output.trans h.bel.output), by omega, fun k hk => ?_⟩, ?_, fun g hg => ?_⟩
  · rw [hgrow.block k (by rw [World.size_alloc]; omega) (fun e => by have := h.lo k e.symm; omega)]
    exact (Below.heap_alloc w2 _ k (by omega)).trans ((hb2.block k (by omega)).trans (h.bel.block k hk))
  · rw [List.range_succ, List.map_append]; exact hown
  · simp [Value.ownBlock] at hg
    subst hg
    rcases hat with e | e
    · exact h.lo _ e
    · omega

end Go.Proofs.Ytjikemhmnkckcab
