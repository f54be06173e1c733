import Derived.Test.YtjikemhmnkckcabImgLaw1
import Derived.Test.YtjikemhmnkckcabImgCode2
import Derived.Deep.CutRange
/- The law of Write. -/
namespace Go.Proofs.Ytjikemhmnkckcab
open Go.RowKit
attribute [local go_sem ↓] Go.wp_at_zero Go.wp_at_succ

/-- What Write answers. -/
def wImg (st rest : Int) (cls : List (Int × Int)) (d : ByteArray) (code : List Ins) : ByteArray := if soundB st rest cls d.size code = true then img4 st rest cls d code code.length else ⟨#[]⟩
def wErr (st rest : Int) (cls : List (Int × Int)) (d : ByteArray) (code : List Ins) : Int := if soundB st rest cls d.size code = true then 0 else 10

theorem gwrite_any (st rest : Int) (a : Option Addr) (cap : Nat) (cls : List (Int × Int)) (d : ByteArray) (ia : Option Addr) (icap : Nat) (code : List Ins) (w : World) (h : CRow w a cap cls) (hi : IRow w ia icap code) :
    Calls Try.prog 13 #[.agg #[.int .i64 st, .int .i64 rest, .slice a cls.length cap, .string d, .slice ia code.length icap]] w fun e w' => e = .returned (.tuple #[.string (wImg st rest cls d code), .int .i64 (wErr st rest cls d code)]) ∧ Below w.heap.size w w' := by
  unfold wImg wErr
  cases hs : soundB st rest cls d.size code with
  | true => simpa using gwrite_yes st rest a cap cls d ia icap code w h hi hs
  | false => simpa using gwrite_no st rest a cap cls d ia icap code w h hi hs
theorem rwrite_any (st rest : Int) (a : Option Addr) (cap : Nat) (cls : List (Int × Int)) (d : ByteArray) (ia : Option Addr) (icap : Nat) (code : List Ins) (w : World) (h : CRow w a cap cls) (hi : IRow w ia icap code) :
    Calls Try.prog 14 #[.agg #[.int .i64 st, .int .i64 rest, .slice a cls.length cap, .string d, .slice ia code.length icap]] w fun e w' => e = .returned (.tuple #[.string (wImg st rest cls d code), .int .i64 (wErr st rest cls d code)]) ∧ Below w.heap.size w w' := by
  unfold wImg wErr
  cases hs : soundB st rest cls d.size code with
  | true => simpa using rwrite_yes st rest a cap cls d ia icap code w h hi hs
  | false => simpa using rwrite_no st rest a cap cls d ia icap code w h hi hs

set_option maxHeartbeats 400000 in
theorem lnum_any (e : Int) (w : World) : Calls Try.prog 10 #[.int .i64 e] w fun e' w' => e' = .returned (.int .i64 e) ∧ w = w' := by
  go_enter Try.func10, Try.ntmps10
  go_wp2
  go_ret
  exact ⟨rfl, rfl⟩

theorem info_ins : (Try.prog.info? 35).map (fun i => (i.zero, i.size, i.bytes)) = some (some (.agg #[.int .i64 0, .int .i64 0, .int .i64 0, .int .i64 0]), 4, 32) := by kernel_rfl
def insCells (x : Ins) : List Value := [.int .i64 x.op, .int .i64 x.a, .int .i64 x.b, .int .i64 x.c]
theorem ins_cells {w : World} {g : Nat} {code : List Ins} (hc : ∀ j u, (code.flatMap insCells)[j]? = some u → w.cell? ⟨g, j, none⟩ = some u) (i : Nat) (hi : i < code.length) :
    w.cell? ⟨g, i * 4, none⟩ = some (.int .i64 (code.getD i Ins.no).op) ∧ w.cell? ⟨g, i * 4 + 1, none⟩ = some (.int .i64 (code.getD i Ins.no).a) ∧ w.cell? ⟨g, i * 4 + 2, none⟩ = some (.int .i64 (code.getD i Ins.no).b) ∧ w.cell? ⟨g, i * 4 + 3, none⟩ = some (.int .i64 (code.getD i Ins.no).c) := by
  have h6 : ∀ j, j < 4 → (code.flatMap insCells)[i * 4 + j]? = (insCells (code.getD i Ins.no))[j]? := fun j hj => by
    rw [flat_get insCells 4 (fun _ => rfl) code i j hj, List.getElem?_eq_getElem hi]
    simp [List.getD_eq_getElem?_getD, List.getElem?_eq_getElem hi]
  have hx := fun j (hj : j < 4) u hu => hc (i * 4 + j) u (by rw [h6 j hj]; exact hu)
  exact ⟨hx 0 (by omega) _ rfl, hx 1 (by omega) _ rfl, hx 2 (by omega) _ rfl, hx 3 (by omega) _ rfl⟩
theorem irow_own {w : World} {L cap : Nat} {code : List Ins} {tl : List Value} (h : Blk w L 35 (code.flatMap insCells ++ tl)) (hm : code.length ≤ cap) (hcap : cap ≤ maxLen) : IRow w (some ⟨L, 0, none⟩) cap code := by
  refine ⟨hm, hcap, fun _ => ⟨L, 0, rfl, h.lt, fun i hi => ?_⟩⟩
  have hc : ∀ j u, (code.flatMap insCells)[j]? = some u → w.cell? ⟨L, j, none⟩ = some u := fun j u hu => h.cell (by
    rw [List.getElem?_append_left]
    · exact hu
    · rcases Nat.lt_or_ge j (code.flatMap insCells).length with h | h
      · exact h
      · rw [List.getElem?_eq_none h] at hu; cases hu)
  have := ins_cells hc i hi
  simp only [Nat.zero_add]
  exact this
/-- the cells of a list of instructions as the reader has them -/
theorem icells_flat {w : World} {g off : Nat} {code : List Ins} (hc : ∀ i, i < code.length →
    w.cell? ⟨g, off + i * 4, none⟩ = some (.int .i64 (code.getD i Ins.no).op) ∧ w.cell? ⟨g, off + i * 4 + 1, none⟩ = some (.int .i64 (code.getD i Ins.no).a) ∧ w.cell? ⟨g, off + i * 4 + 2, none⟩ = some (.int .i64 (code.getD i Ins.no).b) ∧ w.cell? ⟨g, off + i * 4 + 3, none⟩ = some (.int .i64 (code.getD i Ins.no).c)) :
    ∀ j v, (code.flatMap insCells)[j]? = some v → w.cell? ((⟨g, off, none⟩ : Addr).add j) = some v := by
  intro j v hv
  have hj : j < code.length * 4 := by
    have := flat_len insCells 4 (fun _ => rfl) code
    rcases Nat.lt_or_ge j (code.flatMap insCells).length with h | h
    · omega
    · rw [List.getElem?_eq_none h] at hv; cases hv
  have e : j = j / 4 * 4 + j % 4 := by omega
  have hi : j / 4 < code.length := by omega
  have hf := flat_get insCells 4 (fun _ => rfl) code (j / 4) (j % 4) (by omega)
  rw [← e, hv, List.getElem?_eq_getElem hi] at hf
  obtain ⟨d0, d1, d2, d3⟩ := hc (j / 4) hi
  rw [add_lit]
  have hcl : code[j / 4] = code.getD (j / 4) Ins.no := by simp [List.getD_eq_getElem?_getD, List.getElem?_eq_getElem hi]
  rw [hcl] at hf
  rcases (show j % 4 = 0 ∨ j % 4 = 1 ∨ j % 4 = 2 ∨ j % 4 = 3 by omega) with h | h | h | h
  · rw [h] at hf; simp only [Option.bind_some, insCells] at hf
    rw [show off + j = off + j / 4 * 4 by omega, d0]; simpa using hf.symm
  · rw [h] at hf; simp only [Option.bind_some, insCells] at hf
    rw [show off + j = off + j / 4 * 4 + 1 by omega, d1]; simpa using hf.symm
  · rw [h] at hf; simp only [Option.bind_some, insCells] at hf
    rw [show off + j = off + j / 4 * 4 + 2 by omega, d2]; simpa using hf.symm
  · rw [h] at hf; simp only [Option.bind_some, insCells] at hf
    rw [show off + j = off + j / 4 * 4 + 3 by omega, d3]; simpa using hf.symm

/-- A list of instructions is copied into a new one with room for one more. -/
theorem copy_code (code : List Ins) (ia : Option Addr) (icap cb : Nat) (mc : List Value) (w : World) (hi : IRow w ia icap code) (hm : mc.length = (code.length + 1) * 4) (hb : Blk w cb 35 mc) :
    ∃ (W : World) (t0 t1 t2 t3 : Value), (Builtin.copy_ #[25, 25] 3 #[.slice (some ⟨cb, 0, none⟩) (code.length + 1) (code.length + 1), .slice ia code.length icap]).run Try.prog w = .ok (goInt code.length) W ∧
      Blk W cb 35 (code.flatMap insCells ++ [t0, t1, t2, t3]) ∧ Kept w W (· = cb) ∧ W.heap.size = w.heap.size := by
  obtain ⟨i0, hi0, hz0, hz1, hz2⟩ := info_parts info_ins
  have hsz : (Try.prog.info? 35).map (·.size) = some 4 := by rw [hi0]; simp [hz1]
  have hfl := flat_len insCells 4 (fun _ => rfl) code
  obtain ⟨t0, t1, t2, t3, htail⟩ : ∃ t0 t1 t2 t3, mc.drop (code.length * 4) = [t0, t1, t2, t3] := by
    have hl : (mc.drop (code.length * 4)).length = 4 := by rw [List.length_drop]; omega
    match hm : mc.drop (code.length * 4), hl with
    | [t0, t1, t2, t3], _ => exact ⟨t0, t1, t2, t3, rfl⟩
  by_cases hn0 : code.length = 0
  · have hcl : code = [] := List.eq_nil_of_length_eq_zero hn0
    subst hcl
    refine ⟨w, t0, t1, t2, t3, run_copy_empty w _ _ _ 35 4 _ _ _ _ _ Try.underlying25 hsz, ?_, Kept.refl _ _, rfl⟩
    have : mc = [t0, t1, t2, t3] := by simpa using htail
    rw [← this]; simpa using hb
  · obtain ⟨g, off, ha, hg, hc⟩ := hi.cells (by omega)
    subst ha
    have hrn := run_copy_wide (P := Try.prog) w 25 25 3 35 4 cb (code.length + 1) (code.length + 1) ⟨g, off, none⟩ code.length icap mc.toArray 35 (code.flatMap insCells) Try.underlying25 hsz hb (by omega) hfl (icells_flat hc) (by rw [hfl]; simp [hm]; omega) (by intro v hv; simp only [List.mem_flatMap, insCells] at hv; obtain ⟨x, _, hv⟩ := hv; simp at hv; rcases hv with rfl | rfl | rfl | rfl <;> rfl)
    rw [hfl, htail] at hrn
    exact ⟨_, t0, t1, t2, t3, hrn, setRow_heap w _ _ _ _ _ hb, ⟨rfl, rfl, rfl, by simp [World.setRow], fun k hk hs => setRow_other w _ k _ hs⟩, by simp [World.setRow]⟩
end Go.Proofs.Ytjikemhmnkckcab
