import Derived.Test.YtjikemhmnkckcaaJ10
import Derived.Test.YtjikemhmnkckcaaJ11
import Derived.Test.YtjikemhmnkckcaaJ3
namespace Go.Proofs.Ytjikemhmnkckcaa
open Go.RowKit

/-- the program's classFor -/
def gcls (cls : List (Int × Int)) (size : Int) : Int := if size < 1 ∨ Ref.cls_ cls size = cls.length then -1 else (Ref.cls_ cls size : Int)

set_option maxRecDepth 100000 in
set_option maxHeartbeats 1000000 in
theorem classFor_any (p : Nat) (vc : Value) (bb : Nat) (G : GSt) (rest : Int) (cls : List (Int × Int)) (size : Int) (w : World) (h : GRep w p vc bb G) (ho : GOk G rest cls) :
    Calls Try.prog 59 #[.pointer (some ⟨p, 0, none⟩), .int .i64 size] w fun e w' => e = .returned (.int .i64 (gcls cls size)) ∧ w = w' := by
  have c2 := h.blk.cell (j := 2) rfl
  have HO : Hid (GOk G rest cls) := ho
  have n0 := ho.conf.n0
  have n1 := ho.conf.n1
  have hlen := ho.len
  obtain ⟨ac, cap, rfl, hcap, hmax, hrow⟩ := row_open h.cls
  obtain ⟨g, rfl, hgl, hcell, _⟩ := hrow (by omega)
  unfold maxLen at hmax
  have HC : Hid (∀ j u, (G.cs.flatMap gclsCells)[j]? = some u → w.cell? ⟨g, j, none⟩ = some u) := hcell
  have HL : Hid (G.cs.length = cls.length) := hlen
  have hl1 : G.cs.length ≤ 4 := by omega
  clear h ho hrow hcell hlen
  by_cases h1 : size < 1
  · have hres : Hid (gcls cls size = -1) := if_pos (.inl h1)
    go_enter Try.func59, Try.ntmps59
    go_wp2
    go_ret
    exact ⟨ret_int hres.out.symm, rfl⟩
  · have hres : Hid (gcls cls size = if Ref.cls_ cls size = cls.length then -1 else (Ref.cls_ cls size : Int)) := by
      show _ = _
      simp [gcls, h1]
    go_enter Try.func59, Try.ntmps59
    go_wp2
    go_loop [5] (fun i => ∃ m f : Nat, m + f = G.cs.length ∧ i = .int .i64 (m : Int) ∧ Hid (Ref.cls_ cls size = Ref.classFrom cls size f m)) (fun i => G.cs.length - (intOf i).toNat)
    case atStart => exact ⟨0, G.cs.length, by omega, rfl, by show _ = _; rw [HL.out]; rfl⟩
    case round =>
      obtain ⟨m, f, hm, rfl, hc⟩ := hrel
      cases f with
      | zero =>
        have hm3 : ¬ (m : Int) < (G.cs.length : Int) := by omega
        have hfin : Hid (gcls cls size = -1) := by
          show _ = _
          rw [hres.out, if_pos (by rw [hc.out]; show m = _; have := HL.out; omega)]
        clear hm
        go_wp2
        go_ret
        exact ⟨ret_int hfin.out.symm, rfl⟩
      | succ f =>
        have hlt : m < G.cs.length := by omega
        have hlt2 : m < cls.length := by have := HL.out; omega
        obtain ⟨d0, d1, d2⟩ := gcls_cells HC.out m hlt
        rw [HO.out.by_ m hlt2] at d1
        have g0 := HO.out.conf.g0 m hlt2
        have g1 := HO.out.conf.g1 m hlt2
        have HM : Hid (m + (f + 1) = G.cs.length) := hm
        have hst : Hid (Ref.classFrom cls size (f + 1) m = if 16 * Cf.gr cls m < size then Ref.classFrom cls size f (m + 1) else m) := rfl
        have hltI : (m : Int) < (G.cs.length : Int) := by omega
        clear hm d0 d2
        by_cases hq : 16 * Cf.gr cls m < size
        · have hfin : Hid (Ref.cls_ cls size = Ref.classFrom cls size f (m + 1)) := by show _ = _; rw [hc.out, hst.out, if_pos hq]
          go_wp2
          go_round
          case rel => exact ⟨m + 1, f, by have := HM.out; omega, by go_num, hfin⟩
          case measure => simp [intOf]; omega
        · have hfin : Hid (gcls cls size = (m : Int)) := by
            show _ = _
            have e : Ref.cls_ cls size = m := by rw [hc.out, hst.out, if_neg hq]
            rw [hres.out, e, if_neg (by omega)]
          go_wp2
          go_ret
          exact ⟨ret_int hfin.out.symm, rfl⟩

def gopenB (xs : List GSlot) (s : Nat) : Bool := ((xs.getD s GSlot.no).state != 3) && ((xs.getD s GSlot.no).rest == 0)

set_option maxRecDepth 100000 in
set_option maxHeartbeats 1000000 in
theorem openSlot_any (b off sb : Nat) (xs : List GSlot) (w : World) (h2 : w.cell? ⟨b, off + 2, none⟩ = some (.slice (some ⟨sb, 0, none⟩) xs.length xs.length)) (hs : Blk w sb 79 (xs.flatMap slotCells)) (hx : xs.length ≤ 16) :
    Calls Try.prog 60 #[.pointer (some ⟨b, off, none⟩)] w fun e w' => e = .returned (.int .i64 (Ref.firstFrom (gopenB xs) xs.length 0)) ∧ w = w' := by
  have HS : Hid (Blk w sb 79 (xs.flatMap slotCells)) := hs
  clear hs
  go_enter Try.func60, Try.ntmps60
  go_wp2
  go_loop [3] (fun i => ∃ m f : Nat, m + f = xs.length ∧ i = .int .i64 (m : Int) ∧ Hid (Ref.firstFrom (gopenB xs) xs.length 0 = Ref.firstFrom (gopenB xs) f m)) (fun i => xs.length - (intOf i).toNat)
  case atStart => exact ⟨0, xs.length, by omega, rfl, rfl⟩
  case round =>
    obtain ⟨m, f, hm, rfl, hc⟩ := hrel
    cases f with
    | zero =>
      have hm3 : ¬ (m : Int) < (xs.length : Int) := by omega
      clear hm
      go_wp2
      go_ret
      exact ⟨ret_int hc.out.symm, rfl⟩
    | succ f =>
      have hlt : m < xs.length := by omega
      obtain ⟨e0, e1, e2, e3, e4, e5⟩ := slot_cells HS.out m hlt
      have HM : Hid (m + (f + 1) = xs.length) := hm
      have hst : Hid (Ref.firstFrom (gopenB xs) (f + 1) m = if gopenB xs m then (m : Int) else Ref.firstFrom (gopenB xs) f (m + 1)) := rfl
      have hop : Hid (gopenB xs m = (((xs.getD m GSlot.no).state != 3) && ((xs.getD m GSlot.no).rest == 0))) := rfl
      have hltI : (m : Int) < (xs.length : Int) := by omega
      generalize xs.getD m GSlot.no = x at *
      clear hm e1 e2 e4 e5
      cases x1 : (x.state != 3) <;> cases x2 : (x.rest == 0)
      case true.true =>
        have hfin : Hid (Ref.firstFrom (gopenB xs) xs.length 0 = (m : Int)) := by show _ = _; rw [hc.out, hst.out, hop.out, x1, x2]; rfl
        go_wp2
        go_ret
        exact ⟨ret_int hfin.out.symm, rfl⟩
      all_goals
        have hfin : Hid (Ref.firstFrom (gopenB xs) xs.length 0 = Ref.firstFrom (gopenB xs) f (m + 1)) := by show _ = _; rw [hc.out, hst.out, hop.out, x1, x2]; rfl
        go_wp2
        go_round
        case rel => exact ⟨m + 1, f, by have := HM.out; omega, by go_num, hfin⟩
        case measure => simp [intOf]; omega

/-- the last tag of a slot; 0: there is no such slot -/
def glast (xs : List GSlot) (i : Int) : Int := if 0 ≤ i ∧ i < xs.length then (xs.getD i.toNat GSlot.no).tag else 0

set_option maxRecDepth 100000 in
set_option maxHeartbeats 1000000 in
theorem lastTag_any (b off sb : Nat) (xs : List GSlot) (i : Int) (w : World) (h2 : w.cell? ⟨b, off + 2, none⟩ = some (.slice (some ⟨sb, 0, none⟩) xs.length xs.length)) (hs : Blk w sb 79 (xs.flatMap slotCells)) :
    Calls Try.prog 97 #[.pointer (some ⟨b, off, none⟩), .int .i64 i] w fun e w' => e = .returned (.int .i64 (glast xs i)) ∧ w = w' := by
  by_cases h0 : i < 0
  · have hf : Hid (glast xs i = 0) := by show _ = _; unfold glast; rw [if_neg (by omega)]
    clear hs
    go_enter Try.func97, Try.ntmps97
    go_wp2
    go_ret
    exact ⟨ret_int hf.out.symm, rfl⟩
  · obtain ⟨m, rfl⟩ := Int.eq_ofNat_of_zero_le (show 0 ≤ i by omega)
    by_cases h1 : (m : Int) < xs.length
    · have hf : Hid (glast xs m = (xs.getD m GSlot.no).tag) := by show _ = _; unfold glast; rw [if_pos ⟨by omega, h1⟩]; rfl
      obtain ⟨e0, e1, e2, e3, e4, e5⟩ := slot_cells hs m (by omega)
      generalize xs.getD m GSlot.no = x at *
      clear hs e0 e2 e3 e4 e5
      go_enter Try.func97, Try.ntmps97
      go_wp2
      all_goals
        go_ret
        exact ⟨ret_int hf.out.symm, rfl⟩
    · have hf : Hid (glast xs m = 0) := by show _ = _; unfold glast; rw [if_neg (by omega)]
      clear hs
      go_enter Try.func97, Try.ntmps97
      go_wp2
      all_goals
        go_ret
        exact ⟨ret_int hf.out.symm, rfl⟩

set_option maxRecDepth 100000 in
set_option maxHeartbeats 1000000 in
theorem pickTag_any (b off sb : Nat) (xs : List GSlot) (s : Nat) (draw : Int) (w : World) (h2 : w.cell? ⟨b, off + 2, none⟩ = some (.slice (some ⟨sb, 0, none⟩) xs.length xs.length)) (hs : Blk w sb 79 (xs.flatMap slotCells)) (hsl : s ≤ 16) :
    Calls Try.prog 61 #[.pointer (some ⟨b, off, none⟩), .int .i64 (s : Int), .int .i64 draw] w fun e w' => e = .returned (.int .i64 (PickMath.pick (glast xs s) (glast xs ((s : Int) - 1)) (glast xs ((s : Int) + 1)) draw)) ∧ Below w.heap.size w w' := by
  have HS : Hid (Blk w sb 79 (xs.flatMap slotCells)) := hs
  have H2 : Hid (w.cell? ⟨b, off + 2, none⟩ = some (.slice (some ⟨sb, 0, none⟩) xs.length xs.length)) := h2
  clear hs h2
  go_enter Try.func61, Try.ntmps61
  go_wp2_with fail
  refine (lastTag_any b off sb xs _ _ H2.out HS.out).mono ?_
  rintro e1 w1 ⟨rfl, rfl⟩
  go_wp2_with fail
  refine (lastTag_any b off sb xs _ _ H2.out HS.out).mono ?_
  rintro e1 w1 ⟨rfl, rfl⟩
  go_wp2_with fail
  refine (lastTag_any b off sb xs _ _ H2.out HS.out).mono ?_
  rintro e1 w1 ⟨rfl, rfl⟩
  go_wp2_with fail
  refine (gpick_any _ _ _ _ _).mono ?_
  rintro e1 w1 ⟨rfl, hb⟩
  go_wp2
  go_ret
  exact ⟨rfl, hb⟩

set_option maxHeartbeats 400000 in
theorem whole_any (size : Int) (w : World) (h0 : 1 ≤ size) (h1 : size ≤ 128) :
    Calls Try.prog 62 #[.int .i64 size] w fun e w' => e = .returned (.int .i64 (16 * Ref.gsz size)) ∧ w = w' := by
  have hg : Hid (16 * Ref.gsz size = (size + 16 - 1) / 16 * 16) := by show _ = _; unfold Ref.gsz; omega
  go_enter Try.func62, Try.ntmps62
  go_wp2
  go_ret
  exact ⟨ret_int hg.out.symm, rfl⟩
end Go.Proofs.Ytjikemhmnkckcaa
namespace Go.Proofs.Ytjikemhmnkckcaa
open Go.RowKit


theorem GRep.setMem {w w' : World} {p : Nat} {vc : Value} {bb : Nat} {G : GSt} (h : GRep w p vc bb G) (mem' : List Int) (hl : mem'.length = G.mem.length) (hk : Kept w w' (· = bb)) (hb : Blk w' bb 5 (mem'.map (Value.int .u8))) :
    GRep w' p vc bb ⟨G.st, G.rest, G.cs, mem'⟩ := by
  refine ⟨?_, ?_, fun k hk' => ?_, hb, h.apC, h.apB, h.apCB, h.apS, h.apSS⟩
  · show Blk w' p _ [_, _, _, .slice _ mem'.length mem'.length]
    rw [hl]; exact (hk.block p h.blk.lt (fun e => h.apB e.symm)).trans h.blk
  · exact row_kept h.cls fun g hg => hk.block g (row_lt h.cls hg) (fun e => h.apCB (e ▸ hg))
  · exact (hk.block _ (h.slots k hk').lt (h.apS k hk').2.1).trans (h.slots k hk')

/-- the heap with other slots in class k -/
def GSt.withSlots (G : GSt) (k : Nat) (xs : List GSlot) : GSt := ⟨G.st, G.rest, G.cs.set k ⟨(G.cs.getD k GCls.no).begin_, (G.cs.getD k GCls.no).bytes, xs, (G.cs.getD k GCls.no).sb⟩, G.mem⟩

theorem withSlots_getD (G : GSt) (k j : Nat) (xs : List GSlot) (hk : k < G.cs.length) :
    (G.withSlots k xs).cs.getD j GCls.no = if j = k then ⟨(G.cs.getD k GCls.no).begin_, (G.cs.getD k GCls.no).bytes, xs, (G.cs.getD k GCls.no).sb⟩ else G.cs.getD j GCls.no := by
  unfold GSt.withSlots
  by_cases e : j = k
  · subst e; rw [if_pos rfl]; simp [List.getD_eq_getElem?_getD, hk]
  · rw [if_neg e]; simp [List.getD_eq_getElem?_getD, List.getElem?_set_ne (Ne.symm e)]
theorem withSlots_sb (G : GSt) (k j : Nat) (xs : List GSlot) (hk : k < G.cs.length) : ((G.withSlots k xs).cs.getD j GCls.no).sb = (G.cs.getD j GCls.no).sb := by
  rw [withSlots_getD G k j xs hk]; split
  · rename_i e; rw [e]
  · rfl
theorem withSlots_begin (G : GSt) (k j : Nat) (xs : List GSlot) (hk : k < G.cs.length) : ((G.withSlots k xs).cs.getD j GCls.no).begin_ = (G.cs.getD j GCls.no).begin_ := by
  rw [withSlots_getD G k j xs hk]; split
  · rename_i e; rw [e]
  · rfl
theorem withSlots_bytes (G : GSt) (k j : Nat) (xs : List GSlot) (hk : k < G.cs.length) : ((G.withSlots k xs).cs.getD j GCls.no).bytes = (G.cs.getD j GCls.no).bytes := by
  rw [withSlots_getD G k j xs hk]; split
  · rename_i e; rw [e]
  · rfl
theorem withSlots_len (G : GSt) (k : Nat) (xs : List GSlot) : (G.withSlots k xs).cs.length = G.cs.length := by simp [GSt.withSlots]

theorem flat_set_same {α : Type} (enc : α → List Value) (xs : List α) (k : Nat) (x' d : α) (h : k < xs.length → enc x' = enc (xs.getD k d)) : (xs.set k x').flatMap enc = xs.flatMap enc := by
  induction xs generalizing k with
  | nil => rfl
  | cons x xs ih =>
    cases k with
    | zero => simp at h; simp [h]
    | succ k => simp only [List.set_cons_succ, List.flatMap_cons]; rw [ih k (by intro hk; simpa using h (by simpa using hk))]

theorem GRep.setSlots {w w' : World} {p : Nat} {vc : Value} {bb : Nat} {G : GSt} (h : GRep w p vc bb G) (k : Nat) (hk : k < G.cs.length) (xs : List GSlot) (hl : xs.length = (G.cs.getD k GCls.no).slots.length)
    (hkp : Kept w w' (· = (G.cs.getD k GCls.no).sb)) (hb : Blk w' (G.cs.getD k GCls.no).sb 79 (xs.flatMap slotCells)) : GRep w' p vc bb (G.withSlots k xs) := by
  have hS := h.apS k hk
  refine ⟨?_, ?_, fun j hj => ?_, ?_, h.apC, h.apB, h.apCB, fun j hj => ?_, fun i j hi hj hij => ?_⟩
  · exact (hkp.block p h.blk.lt (fun e => hS.1 e.symm)).trans h.blk
  · rw [withSlots_len]
    have e : (G.withSlots k xs).cs.flatMap gclsCells = G.cs.flatMap gclsCells := flat_set_same gclsCells G.cs k _ GCls.no (fun _ => by simp [gclsCells, hl])
    rw [e]
    exact row_kept h.cls fun g hg => hkp.block g (row_lt h.cls hg) (fun e => hS.2.2 (e ▸ hg))
  · rw [withSlots_len] at hj
    rw [withSlots_getD G k j xs hk]
    split
    · exact hb
    · rename_i e
      exact (hkp.block _ (h.slots j hj).lt (h.apSS j k hj hk e)).trans (h.slots j hj)
  · exact (hkp.block bb h.mem.lt (fun e => hS.2.1 e.symm)).trans h.mem
  · rw [withSlots_len] at hj
    rw [withSlots_sb G k j xs hk]; exact h.apS j hj
  · rw [withSlots_len] at hi hj
    rw [withSlots_sb G k i xs hk, withSlots_sb G k j xs hk]; exact h.apSS i j hi hj hij

theorem withSlots_foot (G : GSt) (k : Nat) (xs : List GSlot) (hk : k < G.cs.length) (p : Nat) (vc : Value) (bb b : Nat) : GFoot p vc bb (G.withSlots k xs) b ↔ GFoot p vc bb G b := by
  unfold GFoot
  rw [withSlots_len]
  constructor <;> rintro (h | h | h | ⟨j, hj, h⟩)
  · exact .inl h
  · exact .inr (.inl h)
  · exact .inr (.inr (.inl h))
  · exact .inr (.inr (.inr ⟨j, hj, by rw [h, withSlots_sb G k j xs hk]⟩))
  · exact .inl h
  · exact .inr (.inl h)
  · exact .inr (.inr (.inl h))
  · exact .inr (.inr (.inr ⟨j, hj, by rw [h, withSlots_sb G k j xs hk]⟩))

/-- m noughts from b on -/
def clearTo (mem : List Int) (b : Nat) : Nat → List Int
  | 0 => mem
  | m + 1 => (clearTo mem b m).set (b + m) 0
theorem clearTo_len (mem : List Int) (b m : Nat) : (clearTo mem b m).length = mem.length := by
  induction m with
  | zero => rfl
  | succ m ih => simp [clearTo, ih]

set_option maxRecDepth 100000 in
set_option maxHeartbeats 1000000 in
theorem clear_any (p : Nat) (vc : Value) (bb : Nat) (G : GSt) (b n : Nat) (w : World) (h : GRep w p vc bb G) (hbn : b + n ≤ G.mem.length) (hsm : G.mem.length ≤ 1000000) :
    Calls Try.prog 63 #[.pointer (some ⟨p, 0, none⟩), .int .i64 (b : Int), .int .i64 (n : Int)] w fun e w' => e = .returned (.tuple #[]) ∧ GRep w' p vc bb ⟨G.st, G.rest, G.cs, clearTo G.mem b n⟩ ∧ Kept w w' (· = bb) := by
  have HR : Hid (GRep w p vc bb G) := h
  clear h
  go_enter Try.func63, Try.ntmps63
  go_wp2
  go_loopw [6] (fun i wr => ∃ m : Nat, m ≤ n ∧ i = .int .i64 ((b : Int) + m) ∧ Kept w wr (· = bb) ∧ Blk wr bb 5 ((clearTo G.mem b m).map (Value.int .u8))) (fun i _ => b + n - (intOf i).toNat)
  case atStart => exact ⟨0, by omega, by simp, ⟨rfl, rfl, rfl, Nat.le_refl _, fun _ _ _ => rfl⟩, HR.out.mem⟩
  case round =>
    obtain ⟨m, hm, rfl, hk, hbk⟩ := hrel
    have hblk : Blk wr p 86 [.int .i64 G.st, .int .i64 G.rest, vc, .slice (some ⟨bb, 0, none⟩) G.mem.length G.mem.length] := (hk.block p HR.out.blk.lt (fun e => HR.out.apB e.symm)).trans HR.out.blk
    have c3 := hblk.cell (j := 3) rfl
    have HK : Hid (Kept w wr (· = bb)) := hk
    by_cases hlt : m < n
    · have hlen := clearTo_len G.mem b m
      have hs := hbk.setCell (b + m) (.int .u8 0)
      rw [show ((clearTo G.mem b m).map (Value.int .u8)).set (b + m) (.int .u8 0) = (clearTo G.mem b (m + 1)).map (Value.int .u8) by simp [clearTo, List.map_set]] at hs
      have ci := hbk.cell (j := b + m) (v := .int .u8 ((clearTo G.mem b m)[b + m]'(by omega))) (by rw [List.getElem?_map, List.getElem?_eq_getElem (by omega)]; rfl)
      have fi := hbk.frozen (b + m)
      generalize (clearTo G.mem b m)[b + m]'(by omega) = v0 at ci
      have e1 : ((b : Int) + (m : Int)).toNat = b + m := by omega
      have i0 : (0 : Int) ≤ (b : Int) + (m : Int) := by omega
      have i1 : (b : Int) + (m : Int) < (G.mem.length : Int) := by omega
      have HS : Hid (Blk (wr.setCell ⟨bb, b + m, none⟩ (.int .u8 0)) bb 5 ((clearTo G.mem b (m + 1)).map (Value.int .u8))) := hs
      clear hs hbk hk hblk hlen
      go_wp2
      go_roundw
      case rel => exact ⟨m + 1, by omega, by go_num, ⟨HK.out.os, HK.out.tape, HK.out.output, by rw [World.size_setCell]; exact HK.out.size, fun x hx hs => (Below.heap_setCell wr _ _ x hs).trans (HK.out.block x hx hs)⟩, HS.out⟩
      case measure => simp [intOf]; omega
    · obtain rfl : m = n := by omega
      have hfin := hide2 (HR.out.setMem (clearTo G.mem b m) (clearTo_len _ _ _) hk hbk)
      clear hbk hk hblk
      go_wp2
      go_end0
      exact ⟨rfl, hfin.out, HK.out⟩
end Go.Proofs.Ytjikemhmnkckcaa
