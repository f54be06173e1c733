import Derived.Test.YtjikemhmnkckcabJ4
import Derived.Test.YtjikemhmnkckcabJ2
import Derived.Test.YtjikemhmnkckcabJ10
/- Plain mathematics of the document's Malloc and Free. -/
namespace Go.Proofs.Ytjikemhmnkckcab
namespace Ref

/-- the first class whose slots hold so many bytes; how many classes there are: none does -/
def classFrom (cls : List (Int × Int)) (size : Int) : Nat → Nat → Nat
  | 0, k => k
  | f + 1, k => if 16 * Cf.gr cls k < size then classFrom cls size f (k + 1) else k
def cls_ (cls : List (Int × Int)) (size : Int) : Nat := classFrom cls size cls.length 0
theorem classFrom_le (cls : List (Int × Int)) (size : Int) (f k : Nat) : k ≤ classFrom cls size f k ∧ classFrom cls size f k ≤ k + f := by
  induction f generalizing k with
  | zero => simp [classFrom]
  | succ f ih => simp only [classFrom]; have := ih (k + 1); split <;> omega
theorem classFrom_at (cls : List (Int × Int)) (size : Int) (f k : Nat) (h : classFrom cls size f k < k + f) : size ≤ 16 * Cf.gr cls (classFrom cls size f k) := by
  induction f generalizing k with
  | zero => simp [classFrom] at h
  | succ f ih =>
    simp only [classFrom] at h ⊢
    split
    · rename_i h1; rw [if_pos h1] at h; exact ih (k + 1) (by omega)
    · omega
theorem cls_le (cls : List (Int × Int)) (size : Int) : cls_ cls size ≤ cls.length := by have := classFrom_le cls size cls.length 0; unfold cls_; omega
theorem cls_at (cls : List (Int × Int)) (size : Int) (h : cls_ cls size < cls.length) : size ≤ 16 * Cf.gr cls (cls_ cls size) := classFrom_at cls size cls.length 0 (by unfold cls_ at h; omega)

/-- may a block be given out of the slot? -/
def openB (log : List Ev) (rest : Int) (k s : Nat) : Bool := (state log k s != 3) && !rests log rest k s
def first (log : List Ev) (rest : Int) (cls : List (Int × Int)) (k : Nat) : Int := firstFrom (openB log rest k) (Cf.sl cls k).toNat 0

/-- how many granules so many bytes need -/
def gsz (size : Int) : Int := (size + 15) / 16

def tagOf (log : List Ev) (k s : Nat) (draw : Int) : Nat := PickMath.pick (last log k s) (last log k ((s : Int) - 1)) (last log k ((s : Int) + 1)) draw
def U : Int := 72057594037927936

/-- is p a tag and an address? -/
def tameB (p : Int) : Bool := decide (0 ≤ p) && decide (p / U ≤ 15) && decide (p % U ≤ 65535)

/-- the slot of class k that begins at a and whose last tag is t, if it is not virgin -/
def matchB (st : Int) (cls : List (Int × Int)) (log : List Ev) (a t : Int) (k s : Nat) : Bool :=
  !(Cf.begin_ st cls k s != a || last log k s != t || state log k s == 2)
def blockIn (st : Int) (cls : List (Int × Int)) (log : List Ev) (a t : Int) (k : Nat) : Int := firstFrom (matchB st cls log a t k) (Cf.sl cls k).toNat 0
/-- class, slot, error -/
def blockFrom (st : Int) (cls : List (Int × Int)) (log : List Ev) (a t : Int) : Nat → Nat → Int × Int × Int
  | 0, _ => (0, 0, 8)
  | f + 1, k => if 0 ≤ blockIn st cls log a t k then (if state log k (blockIn st cls log a t k) = 4 then (0, 0, 9) else ((k : Int), blockIn st cls log a t k, 0)) else blockFrom st cls log a t f (k + 1)
def block (st : Int) (cls : List (Int × Int)) (log : List Ev) (p : Int) : Int × Int × Int :=
  if tameB p then blockFrom st cls log (p % U) (p / U) cls.length 0 else (0, 0, 5)
end Ref
end Go.Proofs.Ytjikemhmnkckcab
namespace Go.Proofs.Ytjikemhmnkckcab
open Go.RowKit

/-- the program's classFor -/
def gcls (cls : List (Int × Int)) (size : Int) : Int := if size < 1 ∨ Ref.cls_ cls size = cls.length then -1 else (Ref.cls_ cls size : Int)

set_option maxRecDepth 100000 in
set_option maxHeartbeats 1000000 in
theorem classFor_any (p : Nat) (vc : Value) (bb : Nat) (G : GSt) (rest : Int) (cls : List (Int × Int)) (size : Int) (w : World) (h : GRep w p vc bb G) (ho : GOk G rest cls) :
    Calls Try.prog 79 #[.pointer (some ⟨p, 0, none⟩), .int .i64 size] w fun e w' => e = .returned (.int .i64 (gcls cls size)) ∧ w = w' := by
  have c2 := h.blk.cell (j := 2) rfl
  have HO : Hid (GOk G rest cls) := ho
  have n0 := ho.conf.n0
  have n1 := ho.conf.n1
  have hlen := ho.len
  obtain ⟨ac, cap, rfl, hcap, hmax, hrow⟩ := row_open h.cls
  obtain ⟨g, rfl, hgl, hcell, _⟩ := hrow (by omega)
  unfold maxLen at hmax
  have HC : Hid (∀ j u, (G.cs.flatMap gclsCells)[j]? = some u → w.cell? ⟨g, j, none⟩ = some u) := hcell
  have HL : Hid (G.cs.length = cls.length) := hlen
  have hl1 : G.cs.length ≤ 4 := by omega
  clear h ho hrow hcell hlen
  by_cases h1 : size < 1
  · have hres : Hid (gcls cls size = -1) := if_pos (.inl h1)
    go_enter Try.func79, Try.ntmps79
    go_wp2
    go_ret
    exact ⟨ret_int hres.out.symm, rfl⟩
  · have hres : Hid (gcls cls size = if Ref.cls_ cls size = cls.length then -1 else (Ref.cls_ cls size : Int)) := by
      show _ = _
      simp [gcls, h1]
    go_enter Try.func79, Try.ntmps79
    go_wp2
    go_loop [5] (fun i => ∃ m f : Nat, m + f = G.cs.length ∧ i = .int .i64 (m : Int) ∧ Hid (Ref.cls_ cls size = Ref.classFrom cls size f m)) (fun i => G.cs.length - (intOf i).toNat)
    case atStart => exact ⟨0, G.cs.length, by omega, rfl, by show _ = _; rw [HL.out]; rfl⟩
    case round =>
      obtain ⟨m, f, hm, rfl, hc⟩ := hrel
      cases f with
      | zero =>
        have hm3 : ¬ (m : Int) < (G.cs.length : Int) := by omega
        have hfin : Hid (gcls cls size = -1) := by
          show _ = _
          rw [hres.out, if_pos (by rw [hc.out]; show m = _; have := HL.out; omega)]
        clear hm
        go_wp2
        go_ret
        exact ⟨ret_int hfin.out.symm, rfl⟩
      | succ f =>
        have hlt : m < G.cs.length := by omega
        have hlt2 : m < cls.length := by have := HL.out; omega
        obtain ⟨d0, d1, d2⟩ := gcls_cells HC.out m hlt
        rw [HO.out.by_ m hlt2] at d1
        have g0 := HO.out.conf.g0 m hlt2
        have g1 := HO.out.conf.g1 m hlt2
        have HM : Hid (m + (f + 1) = G.cs.length) := hm
        have hst : Hid (Ref.classFrom cls size (f + 1) m = if 16 * Cf.gr cls m < size then Ref.classFrom cls size f (m + 1) else m) := rfl
        have hltI : (m : Int) < (G.cs.length : Int) := by omega
        clear hm d0 d2
        by_cases hq : 16 * Cf.gr cls m < size
        · have hfin : Hid (Ref.cls_ cls size = Ref.classFrom cls size f (m + 1)) := by show _ = _; rw [hc.out, hst.out, if_pos hq]
          go_wp2
          go_round
          case rel => exact ⟨m + 1, f, by have := HM.out; omega, by go_num, hfin⟩
          case measure => simp [intOf]; omega
        · have hfin : Hid (gcls cls size = (m : Int)) := by
            show _ = _
            have e : Ref.cls_ cls size = m := by rw [hc.out, hst.out, if_neg hq]
            rw [hres.out, e, if_neg (by omega)]
          go_wp2
          go_ret
          exact ⟨ret_int hfin.out.symm, rfl⟩

def gopenB (xs : List GSlot) (s : Nat) : Bool := ((xs.getD s GSlot.no).state != 3) && ((xs.getD s GSlot.no).rest == 0)

set_option maxRecDepth 100000 in
set_option maxHeartbeats 1000000 in
theorem openSlot_any (b off sb : Nat) (xs : List GSlot) (w : World) (h2 : w.cell? ⟨b, off + 2, none⟩ = some (.slice (some ⟨sb, 0, none⟩) xs.length xs.length)) (hs : Blk w sb 97 (xs.flatMap slotCells)) (hx : xs.length ≤ 16) :
    Calls Try.prog 80 #[.pointer (some ⟨b, off, none⟩)] w fun e w' => e = .returned (.int .i64 (Ref.firstFrom (gopenB xs) xs.length 0)) ∧ w = w' := by
  have HS : Hid (Blk w sb 97 (xs.flatMap slotCells)) := hs
  clear hs
  go_enter Try.func80, Try.ntmps80
  go_wp2
  go_loop [3] (fun i => ∃ m f : Nat, m + f = xs.length ∧ i = .int .i64 (m : Int) ∧ Hid (Ref.firstFrom (gopenB xs) xs.length 0 = Ref.firstFrom (gopenB xs) f m)) (fun i => xs.length - (intOf i).toNat)
  case atStart => exact ⟨0, xs.length, by omega, rfl, rfl⟩
  case round =>
    obtain ⟨m, f, hm, rfl, hc⟩ := hrel
    cases f with
    | zero =>
      have hm3 : ¬ (m : Int) < (xs.length : Int) := by omega
      clear hm
      go_wp2
      go_ret
      exact ⟨ret_int hc.out.symm, rfl⟩
    | succ f =>
      have hlt : m < xs.length := by omega
      obtain ⟨e0, e1, e2, e3, e4, e5⟩ := slot_cells HS.out m hlt
      have HM : Hid (m + (f + 1) = xs.length) := hm
      have hst : Hid (Ref.firstFrom (gopenB xs) (f + 1) m = if gopenB xs m then (m : Int) else Ref.firstFrom (gopenB xs) f (m + 1)) := rfl
      have hop : Hid (gopenB xs m = (((xs.getD m GSlot.no).state != 3) && ((xs.getD m GSlot.no).rest == 0))) := rfl
      have hltI : (m : Int) < (xs.length : Int) := by omega
      generalize xs.getD m GSlot.no = x at *
      clear hm e1 e2 e4 e5
      cases x1 : (x.state != 3) <;> cases x2 : (x.rest == 0)
      case true.true =>
        have hfin : Hid (Ref.firstFrom (gopenB xs) xs.length 0 = (m : Int)) := by show _ = _; rw [hc.out, hst.out, hop.out, x1, x2]; rfl
        go_wp2
        go_ret
        exact ⟨ret_int hfin.out.symm, rfl⟩
      all_goals
        have hfin : Hid (Ref.firstFrom (gopenB xs) xs.length 0 = Ref.firstFrom (gopenB xs) f (m + 1)) := by show _ = _; rw [hc.out, hst.out, hop.out, x1, x2]; rfl
        go_wp2
        go_round
        case rel => exact ⟨m + 1, f, by have := HM.out; omega, by go_num, hfin⟩
        case measure => simp [intOf]; omega

/-- the last tag of a slot; 0: there is no such slot -/
def glast (xs : List GSlot) (i : Int) : Int := if 0 ≤ i ∧ i < xs.length then (xs.getD i.toNat GSlot.no).tag else 0

set_option maxRecDepth 100000 in
set_option maxHeartbeats 1000000 in
theorem lastTag_any (b off sb : Nat) (xs : List GSlot) (i : Int) (w : World) (h2 : w.cell? ⟨b, off + 2, none⟩ = some (.slice (some ⟨sb, 0, none⟩) xs.length xs.length)) (hs : Blk w sb 97 (xs.flatMap slotCells)) :
    Calls Try.prog 94 #[.pointer (some ⟨b, off, none⟩), .int .i64 i] w fun e w' => e = .returned (.int .i64 (glast xs i)) ∧ w = w' := by
  by_cases h0 : i < 0
  · have hf : Hid (glast xs i = 0) := by show _ = _; unfold glast; rw [if_neg (by omega)]
    clear hs
    go_enter Try.func94, Try.ntmps94
    go_wp2
    go_ret
    exact ⟨ret_int hf.out.symm, rfl⟩
  · obtain ⟨m, rfl⟩ := Int.eq_ofNat_of_zero_le (show 0 ≤ i by omega)
    by_cases h1 : (m : Int) < xs.length
    · have hf : Hid (glast xs m = (xs.getD m GSlot.no).tag) := by show _ = _; unfold glast; rw [if_pos ⟨by omega, h1⟩]; rfl
      obtain ⟨e0, e1, e2, e3, e4, e5⟩ := slot_cells hs m (by omega)
      generalize xs.getD m GSlot.no = x at *
      clear hs e0 e2 e3 e4 e5
      go_enter Try.func94, Try.ntmps94
      go_wp2
      all_goals
        go_ret
        exact ⟨ret_int hf.out.symm, rfl⟩
    · have hf : Hid (glast xs m = 0) := by show _ = _; unfold glast; rw [if_neg (by omega)]
      clear hs
      go_enter Try.func94, Try.ntmps94
      go_wp2
      all_goals
        go_ret
        exact ⟨ret_int hf.out.symm, rfl⟩

set_option maxRecDepth 100000 in
set_option maxHeartbeats 1000000 in
theorem pickTag_any (b off sb : Nat) (xs : List GSlot) (s : Nat) (draw : Int) (w : World) (h2 : w.cell? ⟨b, off + 2, none⟩ = some (.slice (some ⟨sb, 0, none⟩) xs.length xs.length)) (hs : Blk w sb 97 (xs.flatMap slotCells)) (hsl : s ≤ 16) :
    Calls Try.prog 81 #[.pointer (some ⟨b, off, none⟩), .int .i64 (s : Int), .int .i64 draw] w fun e w' => e = .returned (.int .i64 (PickMath.pick (glast xs s) (glast xs ((s : Int) - 1)) (glast xs ((s : Int) + 1)) draw)) ∧ Below w.heap.size w w' := by
  have HS : Hid (Blk w sb 97 (xs.flatMap slotCells)) := hs
  have H2 : Hid (w.cell? ⟨b, off + 2, none⟩ = some (.slice (some ⟨sb, 0, none⟩) xs.length xs.length)) := h2
  clear hs h2
  go_enter Try.func81, Try.ntmps81
  go_wp2_with fail
  refine (lastTag_any b off sb xs _ _ H2.out HS.out).mono ?_
  rintro e1 w1 ⟨rfl, rfl⟩
  go_wp2_with fail
  refine (lastTag_any b off sb xs _ _ H2.out HS.out).mono ?_
  rintro e1 w1 ⟨rfl, rfl⟩
  go_wp2_with fail
  refine (lastTag_any b off sb xs _ _ H2.out HS.out).mono ?_
  rintro e1 w1 ⟨rfl, rfl⟩
  go_wp2_with fail
  refine (gpick_any _ _ _ _ _).mono ?_
  rintro e1 w1 ⟨rfl, hb⟩
  go_wp2
  go_ret
  exact ⟨rfl, hb⟩

set_option maxHeartbeats 400000 in
theorem whole_any (size : Int) (w : World) (h0 : 1 ≤ size) (h1 : size ≤ 128) :
    Calls Try.prog 82 #[.int .i64 size] w fun e w' => e = .returned (.int .i64 (16 * Ref.gsz size)) ∧ w = w' := by
  have hg : Hid (16 * Ref.gsz size = (size + 16 - 1) / 16 * 16) := by show _ = _; unfold Ref.gsz; omega
  go_enter Try.func82, Try.ntmps82
  go_wp2
  go_ret
  exact ⟨ret_int hg.out.symm, rfl⟩
end Go.Proofs.Ytjikemhmnkckcab
