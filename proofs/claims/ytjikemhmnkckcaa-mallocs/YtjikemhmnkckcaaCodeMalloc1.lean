import Derived.Test.YtjikemhmnkckcaaCodeTag2
import Derived.Test.YtjikemhmnkckcaaMallocMath
import Derived.Test.YtjikemhmnkckcaaPickWalks
namespace Go.Proofs.Ytjikemhmnkckcaa
open Go.RowKit

/-- the program's classFor -/
def gcls (cls : List (Int × Int)) (size : Int) : Int := if size < 1 ∨ Ref.cls_ cls size = cls.length then -1 else (Ref.cls_ cls size : Int)

set_option maxRecDepth 100000 in
set_option maxHeartbeats 1000000 in
theorem classFor_any (p : Nat) (vc : Value) (bb : Nat) (G : GSt) (rest : Int) (cls : List (Int × Int)) (size : Int) (w : World) (h : GRep w p vc bb G) (ho : GOk G rest cls) :
    Calls Try.prog 59 #[.pointer (some ⟨p, 0, none⟩), .int .i64 size] w fun e w' => e = .returned (.int .i64 (gcls cls size)) ∧ w = w' := by
  have c2 := h.blk.cell (j := 2) rfl
  have HO : Hid (GOk G rest cls) := ho
  have n0 := ho.conf.n0
  have n1 := ho.conf.n1
  have hlen := ho.len
  obtain ⟨ac, cap, rfl, hcap, hmax, hrow⟩ := row_open h.cls
  obtain ⟨g, rfl, hgl, hcell, _⟩ := hrow (by omega)
  unfold maxLen at hmax
  have HC : Hid (∀ j u, (G.cs.flatMap gclsCells)[j]? = some u → w.cell? ⟨g, j, none⟩ = some u) := hcell
  have HL : Hid (G.cs.length = cls.length) := hlen
  have hl1 : G.cs.length ≤ 4 := by omega
  clear h ho hrow hcell hlen
  by_cases h1 : size < 1
  · have hres : Hid (gcls cls size = -1) := if_pos (.inl h1)
    go_enter Try.func59, Try.ntmps59
    go_wp2
    go_ret
    exact ⟨ret_int hres.out.symm, rfl⟩
  · have hres : Hid (gcls cls size = if Ref.cls_ cls size = cls.length then -1 else (Ref.cls_ cls size : Int)) := by
      show _ = _
      simp [gcls, h1]
    go_enter Try.func59, Try.ntmps59
    go_wp2
    go_loop [5] (fun i => ∃ m f : Nat, m + f = G.cs.length ∧ i = .int .i64 (m : Int) ∧ Hid (Ref.cls_ cls size = Ref.classFrom cls size f m)) (fun i => G.cs.length - (intOf i).toNat)
    case atStart => exact ⟨0, G.cs.length, by omega, rfl, by show _ = _; rw [HL.out]; rfl⟩
    case round =>
      obtain ⟨m, f, hm, rfl, hc⟩ := hrel
      cases f with
      | zero =>
        have hm3 : ¬ (m : Int) < (G.cs.length : Int) := by omega
        have hfin : Hid (gcls cls size = -1) := by
          show _ = _
          rw [hres.out, if_pos (by rw [hc.out]; show m = _; have := HL.out; omega)]
        clear hm
        go_wp2
        go_ret
        exact ⟨ret_int hfin.out.symm, rfl⟩
      | succ f =>
        have hlt : m < G.cs.length := by omega
        have hlt2 : m < cls.length := by have := HL.out; omega
        obtain ⟨d0, d1, d2⟩ := gcls_cells HC.out m hlt
        rw [HO.out.by_ m hlt2] at d1
        have g0 := HO.out.conf.g0 m hlt2
        have g1 := HO.out.conf.g1 m hlt2
        have HM : Hid (m + (f + 1) = G.cs.length) := hm
        have hst : Hid (Ref.classFrom cls size (f + 1) m = if 16 * Cf.gr cls m < size then Ref.classFrom cls size f (m + 1) else m) := rfl
        have hltI : (m : Int) < (G.cs.length : Int) := by omega
        clear hm d0 d2
        by_cases hq : 16 * Cf.gr cls m < size
        · have hfin : Hid (Ref.cls_ cls size = Ref.classFrom cls size f (m + 1)) := by show _ = _; rw [hc.out, hst.out, if_pos hq]
          go_wp2
          go_round
          case rel => exact ⟨m + 1, f, by have := HM.out; omega, by go_num, hfin⟩
          case measure => simp [intOf]; omega
        · have hfin : Hid (gcls cls size = (m : Int)) := by
            show _ = _
            have e : Ref.cls_ cls size = m := by rw [hc.out, hst.out, if_neg hq]
            rw [hres.out, e, if_neg (by omega)]
          go_wp2
          go_ret
          exact ⟨ret_int hfin.out.symm, rfl⟩

def gopenB (xs : List GSlot) (s : Nat) : Bool := ((xs.getD s GSlot.no).state != 3) && ((xs.getD s GSlot.no).rest == 0)

set_option maxRecDepth 100000 in
set_option maxHeartbeats 1000000 in
theorem openSlot_any (b off sb : Nat) (xs : List GSlot) (w : World) (h2 : w.cell? ⟨b, off + 2, none⟩ = some (.slice (some ⟨sb, 0, none⟩) xs.length xs.length)) (hs : Blk w sb 79 (xs.flatMap slotCells)) (hx : xs.length ≤ 16) :
    Calls Try.prog 60 #[.pointer (some ⟨b, off, none⟩)] w fun e w' => e = .returned (.int .i64 (Ref.firstFrom (gopenB xs) xs.length 0)) ∧ w = w' := by
  have HS : Hid (Blk w sb 79 (xs.flatMap slotCells)) := hs
  clear hs
  go_enter Try.func60, Try.ntmps60
  go_wp2
  go_loop [3] (fun i => ∃ m f : Nat, m + f = xs.length ∧ i = .int .i64 (m : Int) ∧ Hid (Ref.firstFrom (gopenB xs) xs.length 0 = Ref.firstFrom (gopenB xs) f m)) (fun i => xs.length - (intOf i).toNat)
  case atStart => exact ⟨0, xs.length, by omega, rfl, rfl⟩
  case round =>
    obtain ⟨m, f, hm, rfl, hc⟩ := hrel
    cases f with
    | zero =>
      have hm3 : ¬ (m : Int) < (xs.length : Int) := by omega
      clear hm
      go_wp2
      go_ret
      exact ⟨ret_int hc.out.symm, rfl⟩
    | succ f =>
      have hlt : m < xs.length := by omega
      obtain ⟨e0, e1, e2, e3, e4, e5⟩ := slot_cells HS.out m hlt
      have HM : Hid (m + (f + 1) = xs.length) := hm
      have hst : Hid (Ref.firstFrom (gopenB xs) (f + 1) m = if gopenB xs m then (m : Int) else Ref.firstFrom (gopenB xs) f (m + 1)) := rfl
      have hop : Hid (gopenB xs m = (((xs.getD m GSlot.no).state != 3) && ((xs.getD m GSlot.no).rest == 0))) := rfl
      have hltI : (m : Int) < (xs.length : Int) := by omega
      generalize xs.getD m GSlot.no = x at *
      clear hm e1 e2 e4 e5
      cases x1 : (x.state != 3) <;> cases x2 : (x.rest == 0)
      case true.true =>
        have hfin : Hid (Ref.firstFrom (gopenB xs) xs.length 0 = (m : Int)) := by show _ = _; rw [hc.out, hst.out, hop.out, x1, x2]; rfl
        go_wp2
        go_ret
        exact ⟨ret_int hfin.out.symm, rfl⟩
      all_goals
        have hfin : Hid (Ref.firstFrom (gopenB xs) xs.length 0 = Ref.firstFrom (gopenB xs) f (m + 1)) := by show _ = _; rw [hc.out, hst.out, hop.out, x1, x2]; rfl
        go_wp2
        go_round
        case rel => exact ⟨m + 1, f, by have := HM.out; omega, by go_num, hfin⟩
        case measure => simp [intOf]; omega

/-- the last tag of a slot; 0: there is no such slot -/
def glast (xs : List GSlot) (i : Int) : Int := if 0 ≤ i ∧ i < xs.length then (xs.getD i.toNat GSlot.no).tag else 0

set_option maxRecDepth 100000 in
set_option maxHeartbeats 1000000 in
theorem lastTag_any (b off sb : Nat) (xs : List GSlot) (i : Int) (w : World) (h2 : w.cell? ⟨b, off + 2, none⟩ = some (.slice (some ⟨sb, 0, none⟩) xs.length xs.length)) (hs : Blk w sb 79 (xs.flatMap slotCells)) :
    Calls Try.prog 97 #[.pointer (some ⟨b, off, none⟩), .int .i64 i] w fun e w' => e = .returned (.int .i64 (glast xs i)) ∧ w = w' := by
  by_cases h0 : i < 0
  · have hf : Hid (glast xs i = 0) := by show _ = _; unfold glast; rw [if_neg (by omega)]
    clear hs
    go_enter Try.func97, Try.ntmps97
    go_wp2
    go_ret
    exact ⟨ret_int hf.out.symm, rfl⟩
  · obtain ⟨m, rfl⟩ := Int.eq_ofNat_of_zero_le (show 0 ≤ i by omega)
    by_cases h1 : (m : Int) < xs.length
    · have hf : Hid (glast xs m = (xs.getD m GSlot.no).tag) := by show _ = _; unfold glast; rw [if_pos ⟨by omega, h1⟩]; rfl
      obtain ⟨e0, e1, e2, e3, e4, e5⟩ := slot_cells hs m (by omega)
      generalize xs.getD m GSlot.no = x at *
      clear hs e0 e2 e3 e4 e5
      go_enter Try.func97, Try.ntmps97
      go_wp2
      all_goals
        go_ret
        exact ⟨ret_int hf.out.symm, rfl⟩
    · have hf : Hid (glast xs m = 0) := by show _ = _; unfold glast; rw [if_neg (by omega)]
      clear hs
      go_enter Try.func97, Try.ntmps97
      go_wp2
      all_goals
        go_ret
        exact ⟨ret_int hf.out.symm, rfl⟩

set_option maxRecDepth 100000 in
set_option maxHeartbeats 1000000 in
theorem pickTag_any (b off sb : Nat) (xs : List GSlot) (s : Nat) (draw : Int) (w : World) (h2 : w.cell? ⟨b, off + 2, none⟩ = some (.slice (some ⟨sb, 0, none⟩) xs.length xs.length)) (hs : Blk w sb 79 (xs.flatMap slotCells)) (hsl : s ≤ 16) :
    Calls Try.prog 61 #[.pointer (some ⟨b, off, none⟩), .int .i64 (s : Int), .int .i64 draw] w fun e w' => e = .returned (.int .i64 (PickMath.pick (glast xs s) (glast xs ((s : Int) - 1)) (glast xs ((s : Int) + 1)) draw)) ∧ Below w.heap.size w w' := by
  have HS : Hid (Blk w sb 79 (xs.flatMap slotCells)) := hs
  have H2 : Hid (w.cell? ⟨b, off + 2, none⟩ = some (.slice (some ⟨sb, 0, none⟩) xs.length xs.length)) := h2
  clear hs h2
  go_enter Try.func61, Try.ntmps61
  go_wp2_with fail
  refine (lastTag_any b off sb xs _ _ H2.out HS.out).mono ?_
  rintro e1 w1 ⟨rfl, rfl⟩
  go_wp2_with fail
  refine (lastTag_any b off sb xs _ _ H2.out HS.out).mono ?_
  rintro e1 w1 ⟨rfl, rfl⟩
  go_wp2_with fail
  refine (lastTag_any b off sb xs _ _ H2.out HS.out).mono ?_
  rintro e1 w1 ⟨rfl, rfl⟩
  go_wp2_with fail
  refine (gpick_any _ _ _ _ _).mono ?_
  rintro e1 w1 ⟨rfl, hb⟩
  go_wp2
  go_ret
  exact ⟨rfl, hb⟩

set_option maxHeartbeats 400000 in
theorem whole_any (size : Int) (w : World) (h0 : 1 ≤ size) (h1 : size ≤ 128) :
    Calls Try.prog 62 #[.int .i64 size] w fun e w' => e = .returned (.int .i64 (16 * Ref.gsz size)) ∧ w = w' := by
  have hg : Hid (16 * Ref.gsz size = (size + 16 - 1) / 16 * 16) := by show _ = _; unfold Ref.gsz; omega
  go_enter Try.func62, Try.ntmps62
  go_wp2
  go_ret
  exact ⟨ret_int hg.out.symm, rfl⟩
end Go.Proofs.Ytjikemhmnkckcaa
