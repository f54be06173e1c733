import Derived.Test.YtjikemhmnkckcabGreatJ13
namespace Go.Proofs.YtjikemhmnkckcabGreat
namespace Ref
def classFrom (cls : List (Int × Int)) (size : Int) : Nat → Nat → Nat
 | 0, k => k
 | f + 1, k => if 16 * Cf.gr cls k < size then classFrom cls size f (k + 1) else k
def cls_ (cls : List (Int × Int)) (size : Int) : Nat := classFrom cls size cls.length 0
theorem classFrom_le (cls : List (Int × Int)) (size : Int) (f k : Nat) : k ≤ classFrom cls size f k ∧ classFrom cls size f k ≤ k + f := by
 induction f generalizing k with
 | zero => simp [classFrom]
 | succ f ih => simp only [classFrom]; have := ih (k + 1); split <;> omega
theorem classFrom_at (cls : List (Int × Int)) (size : Int) (f k : Nat) (h : classFrom cls size f k < k + f) : size ≤ 16 * Cf.gr cls (classFrom cls size f k) := by
 induction f generalizing k with
 | zero => simp [classFrom] at h
 | succ f ih =>
   simp only [classFrom] at h ⊢
   split
   ·rename_i h1; rw [if_pos h1] at h; exact ih (k + 1) (by omega)
   ·omega
theorem cls_le (cls : List (Int × Int)) (size : Int) : cls_ cls size ≤ cls.length := by have := classFrom_le cls size cls.length 0; unfold cls_; omega
theorem cls_at (cls : List (Int × Int)) (size : Int) (h : cls_ cls size < cls.length) : size ≤ 16 * Cf.gr cls (cls_ cls size) := classFrom_at cls size cls.length 0 (by unfold cls_ at h; omega)
def openB (log : List Ev) (rest : Int) (k s : Nat) : Bool := (state log k s != 3) && !rests log rest k s
def first (log : List Ev) (rest : Int) (cls : List (Int × Int)) (k : Nat) : Int := firstFrom (openB log rest k) (Cf.sl cls k).toNat 0
def gsz (size : Int) : Int := (size + 15) / 16
def tagOf (log : List Ev) (k s : Nat) (draw : Int) : Nat := PickMath.pick (last log k s) (last log k ((s : Int) - 1)) (last log k ((s : Int) + 1)) draw
def U : Int := 72057594037927936
def tameB (p : Int) : Bool := decide (0 ≤ p) && decide (p / U ≤ 15) && decide (p % U ≤ 65535)
def matchB (st : Int) (cls : List (Int × Int)) (log : List Ev) (a t : Int) (k s : Nat) : Bool :=
 !(Cf.begin_ st cls k s != a || last log k s != t || state log k s == 2)
def blockIn (st : Int) (cls : List (Int × Int)) (log : List Ev) (a t : Int) (k : Nat) : Int := firstFrom (matchB st cls log a t k) (Cf.sl cls k).toNat 0
def blockFrom (st : Int) (cls : List (Int × Int)) (log : List Ev) (a t : Int) : Nat → Nat → Int × Int × Int
 | 0, _ => (0, 0, 8)
 | f + 1, k => if 0 ≤ blockIn st cls log a t k then (if state log k (blockIn st cls log a t k) = 4 then (0, 0, 9) else ((k : Int), blockIn st cls log a t k, 0)) else blockFrom st cls log a t f (k + 1)
def block (st : Int) (cls : List (Int × Int)) (log : List Ev) (p : Int) : Int × Int × Int :=
 if tameB p then blockFrom st cls log (p % U) (p / U) cls.length 0 else (0, 0, 5)
end Ref
end Go.Proofs.YtjikemhmnkckcabGreat
namespace Go.Proofs.YtjikemhmnkckcabGreat
open Go.RowKit
def gcls (cls : List (Int × Int)) (size : Int) : Int := if size < 1 ∨ Ref.cls_ cls size = cls.length then -1 else (Ref.cls_ cls size : Int)
set_option maxRecDepth 100000 in
set_option maxHeartbeats 1000000 in
theorem classFor_any (p : Nat) (vc : Value) (bb : Nat) (G : GSt) (rest : Int) (cls : List (Int × Int)) (size : Int) (w : World) (h : GRep w p vc bb G) (ho : GOk G rest cls) :
 Calls Tryz.prog 134 #[.pointer (some ⟨p, 0, none⟩), .int .i64 size] w fun e w' => e = .returned (.int .i64 (gcls cls size)) ∧ w = w' := by
 have c2 := h.blk.cell (j := 2) rfl;have HO : Hid (GOk G rest cls) := ho;have n0 := ho.conf.n0;have n1 := ho.conf.n1;have hlen := ho.len;obtain ⟨ac, cap, rfl, hcap, hmax, hrow⟩ := row_open h.cls;obtain ⟨g, rfl, hgl, hcell, _⟩ := hrow (by omega);unfold maxLen at hmax;have HC : Hid (∀ j u, (G.cs.flatMap gclsCells)[j]? = some u → w.cell? ⟨g, j, none⟩ = some u) := hcell;have HL : Hid (G.cs.length = cls.length) := hlen;have hl1 : G.cs.length ≤ 4 := by omega
 clear h ho hrow hcell hlen
 by_cases h1 : size < 1
 ·have hres : Hid (gcls cls size = -1) := if_pos (.inl h1);go_enter Tryz.func134, Tryz.ntmps134;go_wp2;go_ret;exact ⟨ret_int hres.out.symm, rfl⟩
 ·have hres : Hid (gcls cls size = if Ref.cls_ cls size = cls.length then -1 else (Ref.cls_ cls size : Int)) := by
   show _ = _;simp [gcls, h1]
  go_enter Tryz.func134, Tryz.ntmps134;go_wp2
  go_loop [5] (fun i => ∃ m f : Nat, m + f = G.cs.length ∧ i = .int .i64 (m : Int) ∧ Hid (Ref.cls_ cls size = Ref.classFrom cls size f m)) (fun i => G.cs.length - (intOf i).toNat)
  case atStart => exact ⟨0, G.cs.length, by omega, rfl, by show _ = _; rw [HL.out]; rfl⟩
  case round =>
   obtain ⟨m, f, hm, rfl, hc⟩ := hrel
   cases f with
   | zero =>
     have hm3 : ¬ (m : Int) < (G.cs.length : Int) := by omega
     have hfin : Hid (gcls cls size = -1) := by
      show _ = _;rw [hres.out, if_pos (by rw [hc.out]; show m = _; have := HL.out; omega)]
     clear hm;go_wp2;go_ret;exact ⟨ret_int hfin.out.symm, rfl⟩
   | succ f =>
     have hlt : m < G.cs.length := by omega
     have hlt2 : m < cls.length := by have := HL.out; omega
     obtain ⟨d0, d1, d2⟩ := gcls_cells HC.out m hlt;rw [HO.out.by_ m hlt2] at d1;have g0 := HO.out.conf.g0 m hlt2;have g1 := HO.out.conf.g1 m hlt2;have HM : Hid (m + (f + 1) = G.cs.length) := hm;have hst : Hid (Ref.classFrom cls size (f + 1) m = if 16 * Cf.gr cls m < size then Ref.classFrom cls size f (m + 1) else m) := rfl;have hltI : (m : Int) < (G.cs.length : Int) := by omega
     clear hm d0 d2
     by_cases hq : 16 * Cf.gr cls m < size
     ·have hfin : Hid (Ref.cls_ cls size = Ref.classFrom cls size f (m + 1)) := by show _ = _; rw [hc.out, hst.out, if_pos hq]
      go_wp2
      go_round
      case rel => exact ⟨m + 1, f, by have := HM.out; omega, by go_num, hfin⟩
      case measure => simp [intOf]; omega
     ·have hfin : Hid (gcls cls size = (m : Int)) := by
       show _ = _;have e : Ref.cls_ cls size = m := by rw [hc.out, hst.out, if_neg hq]
       rw [hres.out, e, if_neg (by omega)]
      go_wp2;go_ret;exact ⟨ret_int hfin.out.symm, rfl⟩
def gopenB (xs : List GSlot) (s : Nat) : Bool := ((xs.getD s GSlot.no).state != 3) && ((xs.getD s GSlot.no).rest == 0)
set_option maxRecDepth 100000 in
set_option maxHeartbeats 1000000 in
theorem openSlot_any (b off sb : Nat) (xs : List GSlot) (w : World) (h2 : w.cell? ⟨b, off + 2, none⟩ = some (.slice (some ⟨sb, 0, none⟩) xs.length xs.length)) (hs : Blk w sb 146 (xs.flatMap slotCells)) (hx : xs.length ≤ 16) :
 Calls Tryz.prog 135 #[.pointer (some ⟨b, off, none⟩)] w fun e w' => e = .returned (.int .i64 (Ref.firstFrom (gopenB xs) xs.length 0)) ∧ w = w' := by
 have HS : Hid (Blk w sb 146 (xs.flatMap slotCells)) := hs;clear hs;go_enter Tryz.func135, Tryz.ntmps135;go_wp2
 go_loop [3] (fun i => ∃ m f : Nat, m + f = xs.length ∧ i = .int .i64 (m : Int) ∧ Hid (Ref.firstFrom (gopenB xs) xs.length 0 = Ref.firstFrom (gopenB xs) f m)) (fun i => xs.length - (intOf i).toNat)
 case atStart => exact ⟨0, xs.length, by omega, rfl, rfl⟩
 case round =>
  obtain ⟨m, f, hm, rfl, hc⟩ := hrel
  cases f with
  | zero =>
    have hm3 : ¬ (m : Int) < (xs.length : Int) := by omega
    clear hm;go_wp2;go_ret;exact ⟨ret_int hc.out.symm, rfl⟩
  | succ f =>
    have hlt : m < xs.length := by omega
    obtain ⟨e0, e1, e2, e3, e4, e5⟩ := slot_cells HS.out m hlt;have HM : Hid (m + (f + 1) = xs.length) := hm;have hst : Hid (Ref.firstFrom (gopenB xs) (f + 1) m = if gopenB xs m then (m : Int) else Ref.firstFrom (gopenB xs) f (m + 1)) := rfl;have hop : Hid (gopenB xs m = (((xs.getD m GSlot.no).state != 3) && ((xs.getD m GSlot.no).rest == 0))) := rfl;have hltI : (m : Int) < (xs.length : Int) := by omega
    generalize xs.getD m GSlot.no = x at *;clear hm e1 e2 e4 e5
    cases x1 : (x.state != 3) <;> cases x2 : (x.rest == 0)
    case true.true =>
     have hfin : Hid (Ref.firstFrom (gopenB xs) xs.length 0 = (m : Int)) := by show _ = _; rw [hc.out, hst.out, hop.out, x1, x2]; rfl
     go_wp2;go_ret;exact ⟨ret_int hfin.out.symm, rfl⟩
    all_goals
     have hfin : Hid (Ref.firstFrom (gopenB xs) xs.length 0 = Ref.firstFrom (gopenB xs) f (m + 1)) := by show _ = _; rw [hc.out, hst.out, hop.out, x1, x2]; rfl
     go_wp2
     go_round
     case rel => exact ⟨m + 1, f, by have := HM.out; omega, by go_num, hfin⟩
     case measure => simp [intOf]; omega
def glast (xs : List GSlot) (i : Int) : Int := if 0 ≤ i ∧ i < xs.length then (xs.getD i.toNat GSlot.no).tag else 0
set_option maxRecDepth 100000 in
set_option maxHeartbeats 1000000 in
theorem lastTag_any (b off sb : Nat) (xs : List GSlot) (i : Int) (w : World) (h2 : w.cell? ⟨b, off + 2, none⟩ = some (.slice (some ⟨sb, 0, none⟩) xs.length xs.length)) (hs : Blk w sb 146 (xs.flatMap slotCells)) :
 Calls Tryz.prog 154 #[.pointer (some ⟨b, off, none⟩), .int .i64 i] w fun e w' => e = .returned (.int .i64 (glast xs i)) ∧ w = w' := by
 by_cases h0 : i < 0
 ·have hf : Hid (glast xs i = 0) := by show _ = _; unfold glast; rw [if_neg (by omega)]
  clear hs;go_enter Tryz.func154, Tryz.ntmps154;go_wp2;go_ret;exact ⟨ret_int hf.out.symm, rfl⟩
 ·obtain ⟨m, rfl⟩ := Int.eq_ofNat_of_zero_le (show 0 ≤ i by omega)
  by_cases h1 : (m : Int) < xs.length
  ·have hf : Hid (glast xs m = (xs.getD m GSlot.no).tag) := by show _ = _; unfold glast; rw [if_pos ⟨by omega, h1⟩]; rfl
   obtain ⟨e0, e1, e2, e3, e4, e5⟩ := slot_cells hs m (by omega);generalize xs.getD m GSlot.no = x at *;clear hs e0 e2 e3 e4 e5;go_enter Tryz.func154, Tryz.ntmps154;go_wp2
   all_goals
    go_ret;exact ⟨ret_int hf.out.symm, rfl⟩
  ·have hf : Hid (glast xs m = 0) := by show _ = _; unfold glast; rw [if_neg (by omega)]
   clear hs;go_enter Tryz.func154, Tryz.ntmps154;go_wp2
   all_goals
    go_ret;exact ⟨ret_int hf.out.symm, rfl⟩
set_option maxRecDepth 100000 in
set_option maxHeartbeats 1000000 in
theorem pickTag_any (b off sb : Nat) (xs : List GSlot) (s : Nat) (draw : Int) (w : World) (h2 : w.cell? ⟨b, off + 2, none⟩ = some (.slice (some ⟨sb, 0, none⟩) xs.length xs.length)) (hs : Blk w sb 146 (xs.flatMap slotCells)) (hsl : s ≤ 16) :
 Calls Tryz.prog 136 #[.pointer (some ⟨b, off, none⟩), .int .i64 (s : Int), .int .i64 draw] w fun e w' => e = .returned (.int .i64 (PickMath.pick (glast xs s) (glast xs ((s : Int) - 1)) (glast xs ((s : Int) + 1)) draw)) ∧ Below w.heap.size w w' := by
 have HS : Hid (Blk w sb 146 (xs.flatMap slotCells)) := hs;have H2 : Hid (w.cell? ⟨b, off + 2, none⟩ = some (.slice (some ⟨sb, 0, none⟩) xs.length xs.length)) := h2;clear hs h2;go_enter Tryz.func136, Tryz.ntmps136
 go_wp2_with fail
 refine (lastTag_any b off sb xs _ _ H2.out HS.out).mono ?_;rintro e1 w1 ⟨rfl, rfl⟩
 go_wp2_with fail
 refine (lastTag_any b off sb xs _ _ H2.out HS.out).mono ?_;rintro e1 w1 ⟨rfl, rfl⟩
 go_wp2_with fail
 refine (lastTag_any b off sb xs _ _ H2.out HS.out).mono ?_;rintro e1 w1 ⟨rfl, rfl⟩
 go_wp2_with fail
 refine (gpick_any _ _ _ _ _).mono ?_;rintro e1 w1 ⟨rfl, hb⟩;go_wp2;go_ret;exact ⟨rfl, hb⟩
set_option maxHeartbeats 400000 in
theorem whole_any (size : Int) (w : World) (h0 : 1 ≤ size) (h1 : size ≤ 128) :
 Calls Tryz.prog 137 #[.int .i64 size] w fun e w' => e = .returned (.int .i64 (16 * Ref.gsz size)) ∧ w = w' := by
 have hg : Hid (16 * Ref.gsz size = (size + 16 - 1) / 16 * 16) := by show _ = _; unfold Ref.gsz; omega
 go_enter Tryz.func137, Tryz.ntmps137;go_wp2;go_ret;exact ⟨ret_int hg.out.symm, rfl⟩
theorem GRep.setMem {w w' : World} {p : Nat} {vc : Value} {bb : Nat} {G : GSt} (h : GRep w p vc bb G) (mem' : List Int) (hl : mem'.length = G.mem.length) (hk : Kept w w' (· = bb)) (hb : Blk w' bb 5 (mem'.map (Value.int .u8))) :
 GRep w' p vc bb ⟨G.st, G.rest, G.cs, mem'⟩ := by
 refine ⟨?_, ?_, fun k hk' => ?_, hb, h.apC, h.apB, h.apCB, h.apS, h.apSS⟩
 ·show Blk w' p _ [_, _, _, .slice _ mem'.length mem'.length];rw [hl]; exact (hk.block p h.blk.lt (fun e => h.apB e.symm)).trans h.blk
 ·exact row_kept h.cls fun g hg => hk.block g (row_lt h.cls hg) (fun e => h.apCB (e ▸ hg))
 ·exact (hk.block _ (h.slots k hk').lt (h.apS k hk').2.1).trans (h.slots k hk')
def GSt.withSlots (G : GSt) (k : Nat) (xs : List GSlot) : GSt := ⟨G.st, G.rest, G.cs.set k ⟨(G.cs.getD k GCls.no).begin_, (G.cs.getD k GCls.no).bytes, xs, (G.cs.getD k GCls.no).sb⟩, G.mem⟩
theorem withSlots_getD (G : GSt) (k j : Nat) (xs : List GSlot) (hk : k < G.cs.length) :
 (G.withSlots k xs).cs.getD j GCls.no = if j = k then ⟨(G.cs.getD k GCls.no).begin_, (G.cs.getD k GCls.no).bytes, xs, (G.cs.getD k GCls.no).sb⟩ else G.cs.getD j GCls.no := by
 unfold GSt.withSlots
 by_cases e : j = k
 ·subst e; rw [if_pos rfl]; simp [List.getD_eq_getElem?_getD, hk]
 ·rw [if_neg e]; simp [List.getD_eq_getElem?_getD, List.getElem?_set_ne (Ne.symm e)]
theorem withSlots_sb (G : GSt) (k j : Nat) (xs : List GSlot) (hk : k < G.cs.length) : ((G.withSlots k xs).cs.getD j GCls.no).sb = (G.cs.getD j GCls.no).sb := by
 rw [withSlots_getD G k j xs hk]; split
 ·rename_i e; rw [e]
 ·rfl
theorem withSlots_begin (G : GSt) (k j : Nat) (xs : List GSlot) (hk : k < G.cs.length) : ((G.withSlots k xs).cs.getD j GCls.no).begin_ = (G.cs.getD j GCls.no).begin_ := by
 rw [withSlots_getD G k j xs hk]; split
 ·rename_i e; rw [e]
 ·rfl
theorem withSlots_bytes (G : GSt) (k j : Nat) (xs : List GSlot) (hk : k < G.cs.length) : ((G.withSlots k xs).cs.getD j GCls.no).bytes = (G.cs.getD j GCls.no).bytes := by
 rw [withSlots_getD G k j xs hk]; split
 ·rename_i e; rw [e]
 ·rfl
theorem withSlots_len (G : GSt) (k : Nat) (xs : List GSlot) : (G.withSlots k xs).cs.length = G.cs.length := by simp [GSt.withSlots]
theorem flat_set_same {α : Type} (enc : α → List Value) (xs : List α) (k : Nat) (x' d : α) (h : k < xs.length → enc x' = enc (xs.getD k d)) : (xs.set k x').flatMap enc = xs.flatMap enc := by
 induction xs generalizing k with
 | nil => rfl
 | cons x xs ih =>
   cases k with
   | zero => simp at h; simp [h]
   | succ k => simp only [List.set_cons_succ, List.flatMap_cons]; rw [ih k (by intro hk; simpa using h (by simpa using hk))]
theorem GRep.setSlots {w w' : World} {p : Nat} {vc : Value} {bb : Nat} {G : GSt} (h : GRep w p vc bb G) (k : Nat) (hk : k < G.cs.length) (xs : List GSlot) (hl : xs.length = (G.cs.getD k GCls.no).slots.length)
 (hkp : Kept w w' (· = (G.cs.getD k GCls.no).sb)) (hb : Blk w' (G.cs.getD k GCls.no).sb 146 (xs.flatMap slotCells)) : GRep w' p vc bb (G.withSlots k xs) := by
 have hS := h.apS k hk;refine ⟨?_, ?_, fun j hj => ?_, ?_, h.apC, h.apB, h.apCB, fun j hj => ?_, fun i j hi hj hij => ?_⟩
 ·exact (hkp.block p h.blk.lt (fun e => hS.1 e.symm)).trans h.blk
 ·rw [withSlots_len];have e : (G.withSlots k xs).cs.flatMap gclsCells = G.cs.flatMap gclsCells := flat_set_same gclsCells G.cs k _ GCls.no (fun _ => by simp [gclsCells, hl]);rw [e];exact row_kept h.cls fun g hg => hkp.block g (row_lt h.cls hg) (fun e => hS.2.2 (e ▸ hg))
 ·rw [withSlots_len] at hj;rw [withSlots_getD G k j xs hk]
  split
  ·exact hb
  ·rename_i e
   exact (hkp.block _ (h.slots j hj).lt (h.apSS j k hj hk e)).trans (h.slots j hj)
 ·exact (hkp.block bb h.mem.lt (fun e => hS.2.1 e.symm)).trans h.mem
 ·rw [withSlots_len] at hj;rw [withSlots_sb G k j xs hk]; exact h.apS j hj
 ·rw [withSlots_len] at hi hj;rw [withSlots_sb G k i xs hk, withSlots_sb G k j xs hk]; exact h.apSS i j hi hj hij
theorem withSlots_foot (G : GSt) (k : Nat) (xs : List GSlot) (hk : k < G.cs.length) (p : Nat) (vc : Value) (bb b : Nat) : GFoot p vc bb (G.withSlots k xs) b ↔ GFoot p vc bb G b := by
 unfold GFoot;rw [withSlots_len]
 constructor <;> rintro (h | h | h | ⟨j, hj, h⟩)
 ·exact .inl h
 ·exact .inr (.inl h)
 ·exact .inr (.inr (.inl h))
 ·exact .inr (.inr (.inr ⟨j, hj, by rw [h, withSlots_sb G k j xs hk]⟩))
 ·exact .inl h
 ·exact .inr (.inl h)
 ·exact .inr (.inr (.inl h))
 ·exact .inr (.inr (.inr ⟨j, hj, by rw [h, withSlots_sb G k j xs hk]⟩))
def clearTo (mem : List Int) (b : Nat) : Nat → List Int
 | 0 => mem
 | m + 1 => (clearTo mem b m).set (b + m) 0
theorem clearTo_len (mem : List Int) (b m : Nat) : (clearTo mem b m).length = mem.length := by
 induction m with
 | zero => rfl
 | succ m ih => simp [clearTo, ih]
set_option maxRecDepth 100000 in
set_option maxHeartbeats 1000000 in
theorem clear_any (p : Nat) (vc : Value) (bb : Nat) (G : GSt) (b n : Nat) (w : World) (h : GRep w p vc bb G) (hbn : b + n ≤ G.mem.length) (hsm : G.mem.length ≤ 1000000) :
 Calls Tryz.prog 138 #[.pointer (some ⟨p, 0, none⟩), .int .i64 (b : Int), .int .i64 (n : Int)] w fun e w' => e = .returned (.tuple #[]) ∧ GRep w' p vc bb ⟨G.st, G.rest, G.cs, clearTo G.mem b n⟩ ∧ Kept w w' (· = bb) := by
 have HR : Hid (GRep w p vc bb G) := h;clear h;go_enter Tryz.func138, Tryz.ntmps138;go_wp2
 go_loopw [6] (fun i wr => ∃ m : Nat, m ≤ n ∧ i = .int .i64 ((b : Int) + m) ∧ Kept w wr (· = bb) ∧ Blk wr bb 5 ((clearTo G.mem b m).map (Value.int .u8))) (fun i _ => b + n - (intOf i).toNat)
 case atStart => exact ⟨0, by omega, by simp, ⟨rfl, rfl, rfl, Nat.le_refl _, fun _ _ _ => rfl⟩, HR.out.mem⟩
 case round =>
  obtain ⟨m, hm, rfl, hk, hbk⟩ := hrel;have hblk : Blk wr p 79 [.int .i64 G.st, .int .i64 G.rest, vc, .slice (some ⟨bb, 0, none⟩) G.mem.length G.mem.length] := (hk.block p HR.out.blk.lt (fun e => HR.out.apB e.symm)).trans HR.out.blk;have c3 := hblk.cell (j := 3) rfl;have HK : Hid (Kept w wr (· = bb)) := hk
  by_cases hlt : m < n
  ·have hlen := clearTo_len G.mem b m;have hs := hbk.setCell (b + m) (.int .u8 0);rw [show ((clearTo G.mem b m).map (Value.int .u8)).set (b + m) (.int .u8 0) = (clearTo G.mem b (m + 1)).map (Value.int .u8) by simp [clearTo, List.map_set]] at hs;have ci := hbk.cell (j := b + m) (v := .int .u8 ((clearTo G.mem b m)[b + m]'(by omega))) (by rw [List.getElem?_map, List.getElem?_eq_getElem (by omega)]; rfl);have fi := hbk.frozen (b + m);generalize (clearTo G.mem b m)[b + m]'(by omega) = v0 at ci;have e1 : ((b : Int) + (m : Int)).toNat = b + m := by omega
   have i0 : (0 : Int) ≤ (b : Int) + (m : Int) := by omega
   have i1 : (b : Int) + (m : Int) < (G.mem.length : Int) := by omega
   have HS : Hid (Blk (wr.setCell ⟨bb, b + m, none⟩ (.int .u8 0)) bb 5 ((clearTo G.mem b (m + 1)).map (Value.int .u8))) := hs;clear hs hbk hk hblk hlen;go_wp2
   go_roundw
   case rel => exact ⟨m + 1, by omega, by go_num, ⟨HK.out.os, HK.out.tape, HK.out.output, by rw [World.size_setCell]; exact HK.out.size, fun x hx hs => (Below.heap_setCell wr _ _ x hs).trans (HK.out.block x hx hs)⟩, HS.out⟩
   case measure => simp [intOf]; omega
  ·obtain rfl : m = n := by omega
   have hfin := hide2 (HR.out.setMem (clearTo G.mem b m) (clearTo_len _ _ _) hk hbk);clear hbk hk hblk;go_wp2;go_end0;exact ⟨rfl, hfin.out, HK.out⟩
end Go.Proofs.YtjikemhmnkckcabGreat
namespace Go.Proofs.YtjikemhmnkckcabGreat
open Go.RowKit
namespace Cf
theorem gran_mono {st rest : Int} {cls : List (Int × Int)} (h : Valid st rest cls) (j k : Nat) (hjk : j ≤ k) (hk : k ≤ cls.length) : gran st cls j ≤ gran st cls k := by
 induction k with
 | zero => obtain rfl : j = 0 := by omega
           exact Int.le_refl _
 | succ k ih =>
   by_cases e : j = k + 1
   ·subst e; exact Int.le_refl _
   ·have h1 := ih (by omega) (by omega);have h2 := prod_bd (by have := h.s0 k (by omega); omega) (h.s1 k (by omega)) (by have := h.g0 k (by omega); omega) (h.g1 k (by omega));simp only [gran]; omega
theorem begin_end {st rest : Int} {cls : List (Int × Int)} (h : Valid st rest cls) (k s : Nat) (hk : k < cls.length) (hs : (s : Int) < sl cls k) : begin_ st cls k s + 16 * gr cls k + 16 ≤ 16 * gran st cls cls.length := by
 have h1 := gran_mono h (k + 1) cls.length (by omega) (Nat.le_refl _);have hg := h.g0 k hk
 have h2 : (s : Int) * gr cls k + gr cls k ≤ sl cls k * gr cls k := by
  have : ((s : Int) + 1) * gr cls k ≤ sl cls k * gr cls k := Int.mul_le_mul_of_nonneg_right (by omega) (by omega);rw [Int.add_mul] at this; omega
 simp only [gran] at h1;unfold begin_; omega
end Cf
set_option maxRecDepth 100000 in
set_option maxHeartbeats 800000 in
theorem gmalloc_size (p : Nat) (vc : Value) (bb : Nat) (G : GSt) (rest : Int) (cls : List (Int × Int)) (size draw site : Int) (w : World) (h : GRep w p vc bb G) (ho : GOk G rest cls) (hc : gcls cls size = -1) :
 Calls Tryz.prog 110 #[.pointer (some ⟨p, 0, none⟩), .int .i64 size, .int .i64 draw, .int .i64 site] w fun e w' => e = .returned (.tuple #[.int .i64 0, .int .i64 3]) ∧ w = w' := by
 have HR : Hid (GRep w p vc bb G) := h;have HC : Hid (gcls cls size = -1) := hc;clear h hc;go_enter Tryz.func110, Tryz.ntmps110
 go_wp2_with (go_at_call 134; refine (classFor_any p vc bb G rest cls size _ HR.out ho).mono ?_; rw [HC.out]; rintro e1 w1 ⟨rfl, rfl⟩)
 go_ret2;exact ⟨rfl, rfl⟩
set_option maxRecDepth 100000 in
set_option maxHeartbeats 800000 in
theorem gmalloc_full (p : Nat) (vc : Value) (bb : Nat) (G : GSt) (rest : Int) (cls : List (Int × Int)) (size draw site : Int) (k : Nat) (w : World) (h : GRep w p vc bb G) (ho : GOk G rest cls) (hc : gcls cls size = (k : Int)) (hk : k < cls.length)
 (hf : Ref.firstFrom (gopenB (G.cs.getD k GCls.no).slots) (G.cs.getD k GCls.no).slots.length 0 < 0) :
 Calls Tryz.prog 110 #[.pointer (some ⟨p, 0, none⟩), .int .i64 size, .int .i64 draw, .int .i64 site] w fun e w' => e = .returned (.tuple #[.int .i64 0, .int .i64 4]) ∧ w = w' := by
 have HR : Hid (GRep w p vc bb G) := h;have HC : Hid (gcls cls size = (k : Int)) := hc;have HO : Hid (GOk G rest cls) := ho;have c2 := h.blk.cell (j := 2) rfl;have hlen := ho.len;have hkl : k < G.cs.length := by omega
 obtain ⟨ac, cap, rfl, hcap, hmax, hrow⟩ := row_open h.cls;obtain ⟨g, rfl, hgl, hcell, _⟩ := hrow (by omega);unfold maxLen at hmax;obtain ⟨d0, d1, d2⟩ := gcls_cells hcell k hkl;have hblk := hide2 (h.slots k hkl);have hx : (G.cs.getD k GCls.no).slots.length ≤ 16 := by have := ho.sl k hk; have := ho.conf.s1 k hk; omega
 have hkI : (k : Int) < (G.cs.length : Int) := by omega
 have hl4 : G.cs.length ≤ 4 := by have := ho.conf.n1; omega
 generalize (G.cs.getD k GCls.no).slots = xs at *;generalize (G.cs.getD k GCls.no).sb = sb at *;clear h hc ho hrow hcell hlen d0 d1;go_enter Tryz.func110, Tryz.ntmps110
 go_wp2_with (first
  | (go_at_call 134; refine (classFor_any p _ bb G rest cls size _ HR.out HO.out).mono ?_; rw [HC.out]; rintro e1 w1 ⟨rfl, rfl⟩)
  | (go_at_call 135; refine (openSlot_any g (k * 3) sb xs _ d2 hblk.out hx).mono ?_; rintro e1 w1 ⟨rfl, rfl⟩))
 go_ret2;exact ⟨rfl, rfl⟩
theorem getD_set_same {α : Type} (xs : List α) (i : Nat) (x d : α) (h : i < xs.length) : (xs.set i x).getD i d = x := by simp [List.getD_eq_getElem?_getD, h]
theorem slot_field {w : World} {b : Nat} {xs : List GSlot} (h : Blk w b 146 (xs.flatMap slotCells)) (i j : Nat) (hi : i < xs.length) (hj : j < 6) (v : Value) (x' : GSlot) (hx : slotCells x' = (slotCells (xs.getD i GSlot.no)).set j v) :
 Blk (w.setCell ⟨b, i * 6 + j, none⟩ v) b 146 ((xs.set i x').flatMap slotCells) := by
 have e := h.setCell (i * 6 + j) v;rw [flat_set slotCells 6 (fun _ => rfl) xs GSlot.no i j hi hj x' v hx] at e;exact e
theorem slot_store {w : World} {b : Nat} {xs : List GSlot} (h : Blk w b 146 (xs.flatMap slotCells)) (i : Nat) (hi : i < xs.length) (x : GSlot) :
 Blk ((((((w.setCell ⟨b, i * 6, none⟩ (.int .i64 x.state)).setCell ⟨b, i * 6 + 1, none⟩ (.int .i64 x.tag)).setCell ⟨b, i * 6 + 2, none⟩ (.int .i64 x.bytes)).setCell ⟨b, i * 6 + 3, none⟩ (.int .i64 x.rest)).setCell ⟨b, i * 6 + 4, none⟩ (.int .i64 x.alloc)).setCell ⟨b, i * 6 + 5, none⟩ (.int .i64 x.gone)) b 146 ((xs.set i x).flatMap slotCells) := by
 obtain ⟨y, hy⟩ : ∃ y, y = xs.getD i GSlot.no := ⟨_, rfl⟩
 have h0 := slot_field h i 0 hi (by omega) (.int .i64 x.state) ⟨x.state, y.tag, y.bytes, y.rest, y.alloc, y.gone⟩ (by rw [← hy]; rfl);have h1 := slot_field h0 i 1 (by simpa using hi) (by omega) (.int .i64 x.tag) ⟨x.state, x.tag, y.bytes, y.rest, y.alloc, y.gone⟩ (by rw [getD_set_same _ _ _ _ hi]; rfl);rw [List.set_set] at h1;have h2 := slot_field h1 i 2 (by simpa using hi) (by omega) (.int .i64 x.bytes) ⟨x.state, x.tag, x.bytes, y.rest, y.alloc, y.gone⟩ (by rw [getD_set_same _ _ _ _ hi]; rfl);rw [List.set_set] at h2;have h3 := slot_field h2 i 3 (by simpa using hi) (by omega) (.int .i64 x.rest) ⟨x.state, x.tag, x.bytes, x.rest, y.alloc, y.gone⟩ (by rw [getD_set_same _ _ _ _ hi]; rfl);rw [List.set_set] at h3;have h4 := slot_field h3 i 4 (by simpa using hi) (by omega) (.int .i64 x.alloc) ⟨x.state, x.tag, x.bytes, x.rest, x.alloc, y.gone⟩ (by rw [getD_set_same _ _ _ _ hi]; rfl);rw [List.set_set] at h4;have h5 := slot_field h4 i 5 (by simpa using hi) (by omega) (.int .i64 x.gone) x (by rw [getD_set_same _ _ _ _ hi]; rfl);rw [List.set_set] at h5;exact h5
theorem Kept.set {w wr : World} {S : Nat → Prop} (h : Kept w wr S) (a : Addr) (v : Value) (ha : S a.block) : Kept w (wr.setCell a v) S :=
 ⟨h.os, h.tape, h.output, by rw [World.size_setCell]; exact h.size, fun k hk hs => (Below.heap_setCell wr a v k (fun e => hs (e ▸ ha))).trans (h.block k hk hs)⟩
theorem Kept.same (w : World) (S : Nat → Prop) : Kept w w S := ⟨rfl, rfl, rfl, Nat.le_refl _, fun _ _ _ => rfl⟩
set_option maxRecDepth 100000 in
set_option maxHeartbeats 600000 in
theorem gmalloc_ok (p : Nat) (vc : Value) (bb : Nat) (G : GSt) (rest : Int) (cls : List (Int × Int)) (size draw site : Int) (k s : Nat) (tg : Nat) (w : World) (h : GRep w p vc bb G) (ho : GOk G rest cls) (hmem : (G.mem.length : Int) = 16 * Cf.gran G.st cls cls.length)
 (h1 : 1 ≤ size) (hz : size ≤ 16 * Cf.gr cls k) (hc : gcls cls size = (k : Int)) (hk : k < cls.length) (hs : s < (G.cs.getD k GCls.no).slots.length)
 (hf : Ref.firstFrom (gopenB (G.cs.getD k GCls.no).slots) (G.cs.getD k GCls.no).slots.length 0 = (s : Int))
 (ht : PickMath.pick (glast (G.cs.getD k GCls.no).slots s) (glast (G.cs.getD k GCls.no).slots ((s : Int) - 1)) (glast (G.cs.getD k GCls.no).slots ((s : Int) + 1)) draw = tg) :
 Calls Tryz.prog 110 #[.pointer (some ⟨p, 0, none⟩), .int .i64 size, .int .i64 draw, .int .i64 site] w fun e w' => e = .returned (.tuple #[.int .i64 ((tg : Int) * 72057594037927936 + Cf.begin_ G.st cls k s), .int .i64 0]) ∧
  GRep w' p vc bb (GSt.withSlots ⟨G.st, G.rest, G.cs, clearTo G.mem (Cf.begin_ G.st cls k s).toNat (16 * Ref.gsz size).toNat⟩ k ((G.cs.getD k GCls.no).slots.set s ⟨3, tg, 16 * Ref.gsz size, 0, site, 0⟩)) ∧
  Kept w w' (fun b => b = bb ∨ b = (G.cs.getD k GCls.no).sb) := by
 have t1 : 1 ≤ tg := by rw [← ht]; exact PickMath.pick_lo _ _ _ _
 have t2 : tg ≤ 14 := by rw [← ht]; exact PickMath.pick_hi _ _ _ _
 have HR : Hid (GRep w p vc bb G) := h;have HC : Hid (gcls cls size = (k : Int)) := hc;have HO : Hid (GOk G rest cls) := ho;have HF := hide2 hf;have HT := hide2 ht;have c2 := h.blk.cell (j := 2) rfl;have hp := h.blk.lt;have hlen := ho.len;have hkl : k < G.cs.length := by omega
 obtain ⟨ac, cap, rfl, hcap, hmax, hrow⟩ := row_open h.cls;obtain ⟨g, rfl, hgl, hcell, _⟩ := hrow (by omega);unfold maxLen at hmax;obtain ⟨d0, d1, d2⟩ := gcls_cells hcell k hkl;rw [ho.bg k hk] at d0;rw [ho.by_ k hk] at d1;have HBK := hide2 (h.slots k hkl);have hbl := (h.slots k hkl).lt;have hx : (G.cs.getD k GCls.no).slots.length ≤ 16 := by have := ho.sl k hk; have := ho.conf.s1 k hk; omega
 have hkI : (k : Int) < (G.cs.length : Int) := by omega
 have hl4 : G.cs.length ≤ 4 := by have := ho.conf.n1; omega
 have gg0 := ho.conf.g0 k hk;have gg1 := ho.conf.g1 k hk;have gb := Cf.gran_bd ho.conf k (by omega);have gbl := Cf.gran_bd ho.conf cls.length (Nat.le_refl _);have n4 := ho.conf.n1;have hsl : (s : Int) < Cf.sl cls k := by have := ho.sl k hk; omega
 have pbd := Cf.prod_bd (a := (s : Int)) (b := Cf.gr cls k) (by omega) (by have := ho.conf.s1 k hk; omega) (by omega) (by omega);have bd := Cf.begin_bd ho.conf k hk s (by omega) (by have := ho.conf.s1 k hk; omega);have bend := Cf.begin_end ho.conf k s hk hsl;have hgz : 16 * Ref.gsz size ≤ 16 * Cf.gr cls k ∧ 0 ≤ 16 * Ref.gsz size ∧ 16 * Ref.gsz size ≤ 128 := by unfold Ref.gsz; omega
 have HBE : Hid (Cf.begin_ G.st cls k s = 16 * Cf.gran G.st cls k + (s : Int) * (16 * Cf.gr cls k)) := Cf.begin_eq _ _ _ _
 have PM : Hid (0 ≤ (s : Int) * (16 * Cf.gr cls k) ∧ (s : Int) * (16 * Cf.gr cls k) ≤ 1000000) := by
  rw [Int.mul_left_comm]; exact ⟨by omega, by omega⟩
 obtain ⟨nb, hnb⟩ := Int.eq_ofNat_of_zero_le (show 0 ≤ Cf.begin_ G.st cls k s by omega);obtain ⟨nl, hnl⟩ := Int.eq_ofNat_of_zero_le hgz.2.1;have HNB := hide2 hnb;have HNL := hide2 hnl;have hroom : nb + nl ≤ G.mem.length ∧ G.mem.length ≤ 1000000 := by omega
 have hnl2 : nl ≤ 128 ∧ nb ≤ 8640 := by omega
 have hsI : (s : Int) < ((G.cs.getD k GCls.no).slots.length : Int) := by omega
 have HAP := hide2 (h.apS k hkl);have HB0 := hide2 (⟨h.apB, h.apCB⟩ : bb ≠ p ∧ _);generalize hsb : (G.cs.getD k GCls.no).sb = sb at *;generalize hxs : (G.cs.getD k GCls.no).slots = xs at *;have HSB := hide2 hsb;have HXS := hide2 hxs;clear h hc ho hrow hcell hlen hf ht hnb hnl hsb hxs;go_enter Tryz.func110, Tryz.ntmps110
 go_wp2_with fail
 refine (classFor_any p _ bb G rest cls size _ HR.out HO.out).mono ?_;rw [HC.out];rintro e1 w1 ⟨rfl, rfl⟩
 go_wp2_with fail
 refine (openSlot_any g (k * 3) _ _ _ d2 HBK.out hx).mono ?_;rw [HF.out];rintro e1 w2 ⟨rfl, rfl⟩
 go_wp2_with fail
 refine (pickTag_any g (k * 3) _ _ s draw _ d2 HBK.out (by omega)).mono ?_;rw [HT.out];rintro e1 w3 ⟨rfl, hb3⟩;have c2' := (hb3.cell (p := ⟨p, 2, none⟩) hp).trans c2;have d0' := (hb3.cell (p := ⟨g, k * 3, none⟩) hgl).trans d0;have d1' := (hb3.cell (p := ⟨g, k * 3 + 1, none⟩) hgl).trans d1
 go_wp2_with fail
 refine (whole_any size _ h1 (by omega)).mono ?_;rw [HNL.out];rintro e1 w4 ⟨rfl, hw4⟩;subst hw4
 go_wp2_with fail
 refine (slotBegin_any g (k * 3) (16 * Cf.gran G.st cls k) (16 * Cf.gr cls k) (s : Int) _ d0' d1' (by omega) (by omega) PM.out.1 PM.out.2).mono ?_;rw [← HBE.out, HNB.out];rintro e1 w5 ⟨rfl, hb5'⟩;have hb5 := hb3.trans (hb5'.mono hb3.size);clear hb5' c2' d0' d1'
 go_wp2_with fail
 refine (clear_any p _ bb G nb nl _ (HR.out.below hb5) hroom.1 hroom.2).mono ?_;rintro e1 w6 ⟨rfl, hR6, hk6⟩;have c2'' := hR6.blk.cell (j := 2) rfl;obtain ⟨ac6, cap6, hv6, _, _, hrow6⟩ := row_open hR6.cls;injection hv6 with ea eb ec;subst ea ec;obtain ⟨g6, hg6, hgl6, hcell6, _⟩ := hrow6 (by show 0 < G.cs.length; omega);injection hg6 with hg6;injection hg6 with hg6 _ _;subst hg6;obtain ⟨_, _, d2''⟩ := gcls_cells hcell6 k hkl;have hbk6 := hR6.slots k hkl;change w6.cell? _ = some (.slice (some ⟨(G.cs.getD k GCls.no).sb, 0, none⟩) (G.cs.getD k GCls.no).slots.length (G.cs.getD k GCls.no).slots.length) at d2'';change Blk w6 (G.cs.getD k GCls.no).sb _ ((G.cs.getD k GCls.no).slots.flatMap slotCells) at hbk6;rw [HSB.out, HXS.out] at d2'' hbk6;obtain ⟨e0, e1, e2, e3, e4, e5⟩ := slot_cells hbk6 s hs;have f0 := hbk6.frozen (s * 6);have f1 := hbk6.frozen (s * 6 + 1);have f2 := hbk6.frozen (s * 6 + 2);have f3 := hbk6.frozen (s * 6 + 3);have f4 := hbk6.frozen (s * 6 + 4);have f5 := hbk6.frozen (s * 6 + 5);have HBK6 := hide2 hbk6;have HR6 := hide2 hR6;have HK6 := hide2 hk6;clear hR6 hk6 hbk6 hcell6 hrow6 c2 d0 d1 d2 eb;generalize xs.getD s GSlot.no = x0 at *;go_wp2;go_ret2;rw [HNB.out, HNL.out];have hst := slot_store HBK6.out s hs ⟨3, tg, nl, 0, site, 0⟩;have hkk := ((((((Kept.same w6 (fun b => b = sb)).set ⟨sb, s * 6, none⟩ (.int .i64 3) rfl).set ⟨sb, s * 6 + 1, none⟩ (.int .i64 tg) rfl).set ⟨sb, s * 6 + 2, none⟩ (.int .i64 nl) rfl).set ⟨sb, s * 6 + 3, none⟩ (.int .i64 0) rfl).set ⟨sb, s * 6 + 4, none⟩ (.int .i64 site) rfl).set ⟨sb, s * 6 + 5, none⟩ (.int .i64 0) rfl;refine ⟨rfl, ?_, ?_⟩
 ·simp only [Int.toNat_natCast];exact HR6.out.setSlots k hkl _ (by show _ = (G.cs.getD k GCls.no).slots.length; rw [HXS.out]; simp) (by show Kept _ _ (fun b => b = (G.cs.getD k GCls.no).sb); rw [HSB.out]; exact hkk) (by show Blk _ (G.cs.getD k GCls.no).sb _ _; rw [HSB.out]; exact hst)
 ·exact (((Kept.of_below hb5 _).trans (HK6.out.mono fun b _ hb => .inl hb)).trans (hkk.mono fun b _ hb => .inr hb))
end Go.Proofs.YtjikemhmnkckcabGreat
namespace Go.Proofs.YtjikemhmnkckcabGreat
open Go.RowKit
def mCells (ph vcode : Value) (r : List Int) (inp : ByteArray) (heard : Int) (vd : Value) (drawn : Int) (vo : Value) (pc next steps en ex : Int) (rep : List Value) : List Value :=
 [ph, vcode] ++ r.map (Value.int .i64) ++ [.string inp, .int .i64 heard, vd, .int .i64 drawn, vo, .int .i64 pc, .int .i64 next, .int .i64 steps, .int .i64 en, .int .i64 ex] ++ rep
def zRep2 : List Value := [.int .i64 0, .int .i64 0, .int .i64 0, .int .i64 0, .int .i64 0, .int .i64 0, .int .i64 0, .int .i64 0, .int .i64 0, .slice none 0 0]
def dMem (mem : List Int) (d : ByteArray) : Nat → List Int
 | 0 => mem
 | m + 1 => (dMem mem d m).set (16 + m) (byteAt d m)
theorem dMem_len (mem : List Int) (d : ByteArray) (m : Nat) : (dMem mem d m).length = mem.length := by
 induction m with
 | zero => rfl
 | succ m ih => simp [dMem, ih]
theorem gran_lo {st rest : Int} {cls : List (Int × Int)} (hv : Cf.Valid st rest cls) : st + 2 ≤ Cf.gran st cls cls.length := by
 have := Cf.gran_mono hv 0 cls.length (Nat.zero_le _) (Nat.le_refl _);have e : Cf.gran st cls 0 = 1 + st + 1 := rfl;omega
set_option maxRecDepth 100000 in
set_option maxHeartbeats 3200000 in
theorem newMachine_any (st rest : Int) (a : Option Addr) (cap : Nat) (cls : List (Int × Int)) (d : ByteArray) (ia : Option Addr) (ni icap : Nat) (inp : ByteArray) (da : Option Addr) (nd dcap : Nat) (w : World) (h : CRow w a cap cls) (hv : Cf.Valid st rest cls) (hd : (d.size : Int) ≤ 16 * st) :
 Calls Tryz.prog 14 #[.agg #[.int .i64 st, .int .i64 rest, .slice a cls.length cap, .string d, .slice ia ni icap], .string inp, .slice da nd dcap] w fun e w' => ∃ mb ph gc bb cs, e = .returned (.pointer (some ⟨mb, 0, none⟩)) ∧
  Blk w' mb 81 (mCells (.pointer (some ⟨ph, 0, none⟩)) (.slice ia ni icap) [0, 0, 0, 0, 0, 0, 0, 0] inp 0 (.slice da nd dcap) 0 (.slice none 0 0) 0 0 0 0 0 zRep2) ∧
  GRep w' ph gc bb ⟨st, rest, cs, dMem (List.replicate (16 * Cf.gran st cls cls.length).toNat 0) d d.size⟩ ∧ ClsOk st cls cls.length cs ∧ Below w.heap.size w w' ∧ w.heap.size ≤ mb ∧
  ∀ b, GFoot ph gc bb ⟨st, rest, cs, dMem (List.replicate (16 * Cf.gran st cls cls.length).toNat 0) d d.size⟩ b → w.heap.size ≤ b ∧ b ≠ mb := by
 have st0 := hv.st0;have st1 := hv.st1;have HC := hide2 h;have HV := hide2 hv;clear h hv;go_enter Tryz.func14, Tryz.ntmps14;go_upto_region 1 with (fail);obtain ⟨wa, hwa⟩ : ∃ wa, wa = w.alloc (.cells #[.int .i64 st, .int .i64 rest, .slice a cls.length cap, .string d, .slice ia ni icap] 39) := ⟨_, rfl⟩
 have HBA : Hid (Below w.heap.size w wa) := by show Below _ _ _; rw [hwa]; exact (Below.refl _ _).alloc (Nat.le_refl _) _
 have HP : Hid (Blk wa w.heap.size 39 [.int .i64 st, .int .i64 rest, .slice a cls.length cap, .string d, .slice ia ni icap]) := by show Blk _ _ _ _; rw [hwa]; exact Blk.alloc _ _ _
 have hsa : wa.heap.size = w.heap.size + 1 := by rw [hwa]; simp
 rw [← hwa];clear hwa;have HSA := hide2 hsa;clear hsa;have p0 := HP.out.cell (j := 0) rfl;have p1 := HP.out.cell (j := 1) rfl;have p2 := HP.out.cell (j := 2) rfl;go_upto_region 2 with (go_at_call 28; refine (gnew_yes st rest a cap cls wa (HC.out.below HBA.out) HV.out).mono ?_; rintro e1 w1 ⟨ph, gc, bb, cs, rfl, hg, hcl, hb1, hft⟩; have HG := hide2 hg; have HCL := hide2 hcl; have HB1 := hide2 hb1; have HFT := hide2 hft; clear hg hcl hb1 hft);have HP1 := hide2 (HP.out.below HB1.out HP.out.lt);clear p0 p1 p2 HP;obtain ⟨mem0, hm0⟩ : ∃ m0 : List Int, m0 = List.replicate (16 * Cf.gran st cls cls.length).toNat 0 := ⟨_, rfl⟩
 have hml : (16 + d.size) ≤ mem0.length := by
  rw [hm0, List.length_replicate];have := HV.out.n0;have hg := gran_lo HV.out;omega
 rw [← hm0] at HG HFT;have HM0 := hide2 hm0;clear hm0;have hwp : ∀ b, GFoot ph gc bb ⟨st, rest, cs, mem0⟩ b → b ≠ w.heap.size := fun b hb => by have := HFT.out b hb; have := HSA.out; omega
 have HWP := hide2 hwp;clear hwp;go_wp2
 go_loopw [9] (fun i wr => ∃ m : Nat, m ≤ d.size ∧ i = .int .i64 (m : Int) ∧ Hid (GRep wr ph gc bb ⟨st, rest, cs, dMem mem0 d m⟩) ∧ Hid (Blk wr w.heap.size 39 [.int .i64 st, .int .i64 rest, .slice a cls.length cap, .string d, .slice ia ni icap]) ∧ Hid (Below wa.heap.size wa wr)) (fun i _ => d.size - (intOf i).toNat)
 case atStart => exact ⟨0, by omega, rfl, HG, HP1, HB1⟩
 case round =>
  obtain ⟨m, hm, rfl, HGR, HPR, HBR⟩ := hrel;clear HG HP1 HB1;have hdl := dMem_len mem0 d m
  by_cases hlt : m < d.size
  ·have hmI : (m : Int) < (d.size : Int) := by omega
   have q3 := HPR.out.cell (j := 3) rfl;have g3 := HGR.out.blk.cell (j := 3) rfl;have hlen : ((dMem mem0 d m).map (Value.int .u8)).length = mem0.length := by simp [hdl]
   have hk : 16 + m < ((dMem mem0 d m).map (Value.int .u8)).length := by omega
   have b0 := HGR.out.mem.cell (j := 16 + m) (List.getElem?_eq_getElem hk);have bf := HGR.out.mem.frozen (16 + m);generalize ((dMem mem0 d m).map (Value.int .u8))[16 + m] = z0 at *;simp only [hdl] at g3;have hI2 : (16 : Int) + (m : Int) < (mem0.length : Int) := by omega
   have hI3 : (16 + (m : Int)).toNat = 16 + m := by omega
   have HV2 : Hid (byteAt d m = (d[m].toNat : Int)) := byteAt_lt hlt;clear hlen hk;go_upto_region 5 with (fail)
   go_region
   go_wp2
   have hset : Blk ((wr.setCell ⟨bb, 16 + m, none⟩ (.int .u8 (d[m].toNat : Int))).drew) bb 5 ((dMem mem0 d (m + 1)).map (Value.int .u8)) := by
    have e := HGR.out.mem.setCell (16 + m) (.int .u8 (d[m].toNat : Int))
    have e2 : ((dMem mem0 d m).map (Value.int .u8)).set (16 + m) (.int .u8 (d[m].toNat : Int)) = (dMem mem0 d (m + 1)).map (Value.int .u8) := by
     simp only [dMem, HV2.out, List.map_set]
    rw [e2] at e;exact e
   have hkept : Kept wr ((wr.setCell ⟨bb, 16 + m, none⟩ (.int .u8 (d[m].toNat : Int))).drew) (· = bb) := by
    have := (Kept.refl wr (· = bb)).setCell ⟨bb, 16 + m, none⟩ (.int .u8 (d[m].toNat : Int)) rfl;exact ⟨this.os, this.tape, this.output, this.size, this.block⟩
   have HG2 := hide2 (HGR.out.setMem (dMem mem0 d (m + 1)) (by rw [dMem_len]; exact hdl.symm) hkept hset);have hwb : w.heap.size ≠ bb := fun e => HWP.out bb (.inr (.inr (.inl rfl))) e.symm
   have hab : wa.heap.size ≤ bb := HFT.out bb (.inr (.inr (.inl rfl)));have HP2 := hide2 (HPR.out.kept hkept hwb);have HB2 : Hid (Below wa.heap.size wa ((wr.setCell ⟨bb, 16 + m, none⟩ (.int .u8 (d[m].toNat : Int))).drew)) := (HBR.out.setCell hab _).drew;clear hset hkept
   go_roundw
   case rel => exact ⟨m + 1, by omega, by go_num, HG2, HP2, HB2⟩
   case measure => simp [intOf]; omega
  ·obtain rfl : m = d.size := by omega
   have q3 := HPR.out.cell (j := 3) rfl;go_upto_region 6 with (fail);have q4 := HPR.out.cell (j := 4) rfl;go_wp2;go_ret;have hx : Below wr.heap.size wr (wr.alloc (.cells (mCells (.pointer (some ⟨ph, 0, none⟩)) (.slice ia ni icap) [0, 0, 0, 0, 0, 0, 0, 0] inp 0 (.slice da nd dcap) 0 (.slice none 0 0) 0 0 0 0 0 zRep2).toArray 81)) := (Below.refl _ _).alloc (Nat.le_refl _) _;have hsz := HBR.out.size;have hsa := HSA.out;have hft : ∀ b, GFoot ph gc bb ⟨st, rest, cs, dMem mem0 d d.size⟩ b → GFoot ph gc bb ⟨st, rest, cs, mem0⟩ b := fun b hb => hb
   rw [← HM0.out];refine ⟨wr.heap.size, ph, gc, bb, cs, rfl, Blk.alloc wr 81 _, HGR.out.below hx, HCL.out, (HBA.out.trans (HBR.out.mono HBA.out.size)).trans (hx.mono (by omega)), by omega, fun b hb => ⟨by have := HFT.out b (hft b hb); omega, by have := HGR.out.foot_lt hb; omega⟩⟩
structure SlotSim (log : List Ref.Ev) (rest : Int) (k s : Nat) (x : GSlot) : Prop where
 st : x.state = Ref.state log k s
 tag : x.tag = Ref.last log k s
 bytes : 0 ≤ Ref.given log k s → x.bytes = 16 * (log.getD (Ref.given log k s).toNat Ref.Ev.no).size
 rest : x.rest = if Ref.state log k s = 4 then max 0 (rest - Ref.since log k s) else 0
 alloc : x.alloc = if Ref.given log k s < 0 then 0 else (log.getD (Ref.given log k s).toNat Ref.Ev.no).site
 gone : x.gone = if Ref.state log k s = 4 then (log.getD (Ref.gone log k s).toNat Ref.Ev.no).site else 0
structure LogOk (R : RSt) : Prop where
 cls0 : ∀ i, i < R.log.length → 0 ≤ (R.log.getD i Ref.Ev.no).cls
 slot0 : ∀ i, i < R.log.length → 0 ≤ (R.log.getD i Ref.Ev.no).slot
 slot1 : ∀ i, i < R.log.length → (R.log.getD i Ref.Ev.no).slot < Cf.sl R.cls (R.log.getD i Ref.Ev.no).cls.toNat
 vir : ∀ k s : Nat, Ref.given R.log k s < 0 → Ref.gone R.log k s < 0
structure Sim (G : GSt) (R : RSt) : Prop where
 st : G.st = R.st
 mem : (G.mem.length : Int) = 16 * Cf.gran G.st R.cls R.cls.length
 log : LogOk R
 ok : GOk G R.rest R.cls
 rok : ROk R
 bd : GBd G
 slots : ∀ k s, k < R.cls.length → s < (Cf.sl R.cls k).toNat → SlotSim R.log R.rest k s (slotOf G k s)
theorem Sim.tag {G : GSt} {R : RSt} (h : Sim G R) (addr : Int) : gtag G R.cls addr = Cf.tag R.st R.cls R.log addr := by
 unfold gtag Cf.tag;rw [h.st]
 by_cases h1 : 16 ≤ addr ∧ addr < 16 * (1 + R.st)
 ·rw [if_pos h1, if_pos h1]
 ·rw [if_neg h1, if_neg h1]
  rcases Cf.slot_bd R.st R.cls addr with hsl | ⟨k, s, hsl, hk, hs, _⟩
  ·rw [hsl]; rfl
  ·rw [hsl];have hx := h.slots k s hk hs;have hk0 : ¬ ((k : Int) < 0) := by omega
   simp only [Int.toNat_natCast];rw [if_neg hk0, if_neg hk0]
   by_cases h3 : Ref.state R.log k s = 3
   ·have hg : 0 ≤ Ref.given R.log k s := by
     unfold Ref.state at h3; split at h3
     ·omega
     ·omega
    rw [if_neg (c := Ref.state R.log k s ≠ 3) (by simp [h3]), hx.st, hx.bytes hg, hx.tag]
    by_cases h4 : Cf.begin_ R.st R.cls k s + 16 * (R.log.getD (Ref.given R.log k s).toNat Ref.Ev.no).size ≤ addr
    ·rw [if_pos h4, if_neg (by omega)]
    ·rw [if_neg h4, if_pos ⟨h3, by omega⟩];unfold Ref.last;rw [if_neg (by omega)]
   ·rw [if_pos (c := Ref.state R.log k s ≠ 3) h3, hx.st, if_neg (fun x => h3 x.1)]
theorem slotOf_virgin {st : Int} {cls : List (Int × Int)} {cs : List GCls} (h : ClsOk st cls cls.length cs) (rest : Int) (mem : List Int) (k s : Nat) :
 (slotOf ⟨st, rest, cs, mem⟩ k s = GSlot.virgin ∧ k < cls.length ∧ s < (Cf.sl cls k).toNat) ∨ (slotOf ⟨st, rest, cs, mem⟩ k s = GSlot.no ∧ ¬ (k < cls.length ∧ s < (Cf.sl cls k).toNat)) := by
 unfold slotOf
 by_cases hk : k < cls.length
 ·show ((cs.getD k GCls.no).slots.getD s GSlot.no = _ ∧ _) ∨ ((cs.getD k GCls.no).slots.getD s GSlot.no = _ ∧ _);rw [h.sl k hk]
  by_cases hs : s < (Cf.sl cls k).toNat
  ·left; refine ⟨?_, hk, hs⟩
   rw [List.getD_eq_getElem?_getD, List.getElem?_replicate, if_pos hs]; rfl
  ·right; refine ⟨?_, fun x => hs x.2⟩
   rw [List.getD_eq_getElem?_getD, List.getElem?_replicate, if_neg hs]; rfl
 ·right; refine ⟨?_, fun x => hk x.1⟩
  show (cs.getD k GCls.no).slots.getD s GSlot.no = _
  have : cs.getD k GCls.no = GCls.no := by
   rw [List.getD_eq_getElem?_getD, List.getElem?_eq_none (by rw [h.len]; omega)]; rfl
  rw [this]; rfl
theorem Sim.start {st rest : Int} {cls : List (Int × Int)} {cs : List GCls} (hv : Cf.Valid st rest cls) (h : ClsOk st cls cls.length cs) (mem : List Int) (hm : (mem.length : Int) = 16 * Cf.gran st cls cls.length) : Sim ⟨st, rest, cs, mem⟩ ⟨st, rest, cls, [], []⟩ := by
 refine ⟨rfl, hm, ⟨fun i hi => absurd hi (by simp), fun i hi => absurd hi (by simp), fun i hi => absurd hi (by simp), fun k s _ => by show (-1 : Int) < 0; decide⟩, ⟨hv, rfl, h.len, fun k hk => h.bg k hk, fun k hk => h.by_ k hk, fun k hk => ?_⟩, ⟨hv, fun i => by simp [Ref.Ev.no], fun i => by simp [Ref.Ev.no]⟩, fun k s => ?_, fun k s hk hs => ?_⟩
 ·show ((cs.getD k GCls.no).slots.length : Int) = Cf.sl cls k;rw [h.sl k hk, List.length_replicate]; have := hv.s0 k hk; omega
 ·rcases slotOf_virgin h rest mem k s with ⟨e, _⟩ | ⟨e, _⟩ <;> rw [e] <;> simp [GSlot.virgin, GSlot.no]
 ·rcases slotOf_virgin h rest mem k s with ⟨e, _⟩ | ⟨_, e⟩
  ·rw [e];have hgv : Ref.given [] (k : Int) (s : Int) = -1 := rfl;have hst : Ref.state [] (k : Int) (s : Int) = 2 := rfl;exact ⟨rfl, rfl, fun h0 => by rw [hgv] at h0; omega, by simp [GSlot.virgin, hst], by simp [GSlot.virgin, hgv], by simp [GSlot.virgin, hst]⟩
  ·exact absurd ⟨hk, hs⟩ e
end Go.Proofs.YtjikemhmnkckcabGreat
