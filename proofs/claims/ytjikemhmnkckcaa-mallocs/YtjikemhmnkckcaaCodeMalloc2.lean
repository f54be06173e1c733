import Derived.Test.YtjikemhmnkckcaaCodeMalloc1
namespace Go.Proofs.Ytjikemhmnkckcaa
open Go.RowKit


theorem GRep.setMem {w w' : World} {p : Nat} {vc : Value} {bb : Nat} {G : GSt} (h : GRep w p vc bb G) (mem' : List Int) (hl : mem'.length = G.mem.length) (hk : Kept w w' (· = bb)) (hb : Blk w' bb 5 (mem'.map (Value.int .u8))) :
    GRep w' p vc bb ⟨G.st, G.rest, G.cs, mem'⟩ := by
  refine ⟨?_, ?_, fun k hk' => ?_, hb, h.apC, h.apB, h.apCB, h.apS, h.apSS⟩
  · show Blk w' p _ [_, _, _, .slice _ mem'.length mem'.length]
    rw [hl]; exact (hk.block p h.blk.lt (fun e => h.apB e.symm)).trans h.blk
  · exact row_kept h.cls fun g hg => hk.block g (row_lt h.cls hg) (fun e => h.apCB (e ▸ hg))
  · exact (hk.block _ (h.slots k hk').lt (h.apS k hk').2.1).trans (h.slots k hk')

/-- the heap with other slots in class k -/
def GSt.withSlots (G : GSt) (k : Nat) (xs : List GSlot) : GSt := ⟨G.st, G.rest, G.cs.set k ⟨(G.cs.getD k GCls.no).begin_, (G.cs.getD k GCls.no).bytes, xs, (G.cs.getD k GCls.no).sb⟩, G.mem⟩

theorem withSlots_getD (G : GSt) (k j : Nat) (xs : List GSlot) (hk : k < G.cs.length) :
    (G.withSlots k xs).cs.getD j GCls.no = if j = k then ⟨(G.cs.getD k GCls.no).begin_, (G.cs.getD k GCls.no).bytes, xs, (G.cs.getD k GCls.no).sb⟩ else G.cs.getD j GCls.no := by
  unfold GSt.withSlots
  by_cases e : j = k
  · subst e; rw [if_pos rfl]; simp [List.getD_eq_getElem?_getD, hk]
  · rw [if_neg e]; simp [List.getD_eq_getElem?_getD, List.getElem?_set_ne (Ne.symm e)]
theorem withSlots_sb (G : GSt) (k j : Nat) (xs : List GSlot) (hk : k < G.cs.length) : ((G.withSlots k xs).cs.getD j GCls.no).sb = (G.cs.getD j GCls.no).sb := by
  rw [withSlots_getD G k j xs hk]; split
  · rename_i e; rw [e]
  · rfl
theorem withSlots_begin (G : GSt) (k j : Nat) (xs : List GSlot) (hk : k < G.cs.length) : ((G.withSlots k xs).cs.getD j GCls.no).begin_ = (G.cs.getD j GCls.no).begin_ := by
  rw [withSlots_getD G k j xs hk]; split
  · rename_i e; rw [e]
  · rfl
theorem withSlots_bytes (G : GSt) (k j : Nat) (xs : List GSlot) (hk : k < G.cs.length) : ((G.withSlots k xs).cs.getD j GCls.no).bytes = (G.cs.getD j GCls.no).bytes := by
  rw [withSlots_getD G k j xs hk]; split
  · rename_i e; rw [e]
  · rfl
theorem withSlots_len (G : GSt) (k : Nat) (xs : List GSlot) : (G.withSlots k xs).cs.length = G.cs.length := by simp [GSt.withSlots]

theorem flat_set_same {α : Type} (enc : α → List Value) (xs : List α) (k : Nat) (x' d : α) (h : k < xs.length → enc x' = enc (xs.getD k d)) : (xs.set k x').flatMap enc = xs.flatMap enc := by
  induction xs generalizing k with
  | nil => rfl
  | cons x xs ih =>
    cases k with
    | zero => simp at h; simp [h]
    | succ k => simp only [List.set_cons_succ, List.flatMap_cons]; rw [ih k (by intro hk; simpa using h (by simpa using hk))]

theorem GRep.setSlots {w w' : World} {p : Nat} {vc : Value} {bb : Nat} {G : GSt} (h : GRep w p vc bb G) (k : Nat) (hk : k < G.cs.length) (xs : List GSlot) (hl : xs.length = (G.cs.getD k GCls.no).slots.length)
    (hkp : Kept w w' (· = (G.cs.getD k GCls.no).sb)) (hb : Blk w' (G.cs.getD k GCls.no).sb 79 (xs.flatMap slotCells)) : GRep w' p vc bb (G.withSlots k xs) := by
  have hS := h.apS k hk
  refine ⟨?_, ?_, fun j hj => ?_, ?_, h.apC, h.apB, h.apCB, fun j hj => ?_, fun i j hi hj hij => ?_⟩
  · exact (hkp.block p h.blk.lt (fun e => hS.1 e.symm)).trans h.blk
  · rw [withSlots_len]
    have e : (G.withSlots k xs).cs.flatMap gclsCells = G.cs.flatMap gclsCells := flat_set_same gclsCells G.cs k _ GCls.no (fun _ => by simp [gclsCells, hl])
    rw [e]
    exact row_kept h.cls fun g hg => hkp.block g (row_lt h.cls hg) (fun e => hS.2.2 (e ▸ hg))
  · rw [withSlots_len] at hj
    rw [withSlots_getD G k j xs hk]
    split
    · exact hb
    · rename_i e
      exact (hkp.block _ (h.slots j hj).lt (h.apSS j k hj hk e)).trans (h.slots j hj)
  · exact (hkp.block bb h.mem.lt (fun e => hS.2.1 e.symm)).trans h.mem
  · rw [withSlots_len] at hj
    rw [withSlots_sb G k j xs hk]; exact h.apS j hj
  · rw [withSlots_len] at hi hj
    rw [withSlots_sb G k i xs hk, withSlots_sb G k j xs hk]; exact h.apSS i j hi hj hij

theorem withSlots_foot (G : GSt) (k : Nat) (xs : List GSlot) (hk : k < G.cs.length) (p : Nat) (vc : Value) (bb b : Nat) : GFoot p vc bb (G.withSlots k xs) b ↔ GFoot p vc bb G b := by
  unfold GFoot
  rw [withSlots_len]
  constructor <;> rintro (h | h | h | ⟨j, hj, h⟩)
  · exact .inl h
  · exact .inr (.inl h)
  · exact .inr (.inr (.inl h))
  · exact .inr (.inr (.inr ⟨j, hj, by rw [h, withSlots_sb G k j xs hk]⟩))
  · exact .inl h
  · exact .inr (.inl h)
  · exact .inr (.inr (.inl h))
  · exact .inr (.inr (.inr ⟨j, hj, by rw [h, withSlots_sb G k j xs hk]⟩))

/-- m noughts from b on -/
def clearTo (mem : List Int) (b : Nat) : Nat → List Int
  | 0 => mem
  | m + 1 => (clearTo mem b m).set (b + m) 0
theorem clearTo_len (mem : List Int) (b m : Nat) : (clearTo mem b m).length = mem.length := by
  induction m with
  | zero => rfl
  | succ m ih => simp [clearTo, ih]

set_option maxRecDepth 100000 in
set_option maxHeartbeats 1000000 in
theorem clear_any (p : Nat) (vc : Value) (bb : Nat) (G : GSt) (b n : Nat) (w : World) (h : GRep w p vc bb G) (hbn : b + n ≤ G.mem.length) (hsm : G.mem.length ≤ 1000000) :
    Calls Try.prog 63 #[.pointer (some ⟨p, 0, none⟩), .int .i64 (b : Int), .int .i64 (n : Int)] w fun e w' => e = .returned (.tuple #[]) ∧ GRep w' p vc bb ⟨G.st, G.rest, G.cs, clearTo G.mem b n⟩ ∧ Kept w w' (· = bb) := by
  have HR : Hid (GRep w p vc bb G) := h
  clear h
  go_enter Try.func63, Try.ntmps63
  go_wp2
  go_loopw [6] (fun i wr => ∃ m : Nat, m ≤ n ∧ i = .int .i64 ((b : Int) + m) ∧ Kept w wr (· = bb) ∧ Blk wr bb 5 ((clearTo G.mem b m).map (Value.int .u8))) (fun i _ => b + n - (intOf i).toNat)
  case atStart => exact ⟨0, by omega, by simp, ⟨rfl, rfl, rfl, Nat.le_refl _, fun _ _ _ => rfl⟩, HR.out.mem⟩
  case round =>
    obtain ⟨m, hm, rfl, hk, hbk⟩ := hrel
    have hblk : Blk wr p 86 [.int .i64 G.st, .int .i64 G.rest, vc, .slice (some ⟨bb, 0, none⟩) G.mem.length G.mem.length] := (hk.block p HR.out.blk.lt (fun e => HR.out.apB e.symm)).trans HR.out.blk
    have c3 := hblk.cell (j := 3) rfl
    have HK : Hid (Kept w wr (· = bb)) := hk
    by_cases hlt : m < n
    · have hlen := clearTo_len G.mem b m
      have hs := hbk.setCell (b + m) (.int .u8 0)
      rw [show ((clearTo G.mem b m).map (Value.int .u8)).set (b + m) (.int .u8 0) = (clearTo G.mem b (m + 1)).map (Value.int .u8) by simp [clearTo, List.map_set]] at hs
      have ci := hbk.cell (j := b + m) (v := .int .u8 ((clearTo G.mem b m)[b + m]'(by omega))) (by rw [List.getElem?_map, List.getElem?_eq_getElem (by omega)]; rfl)
      have fi := hbk.frozen (b + m)
      generalize (clearTo G.mem b m)[b + m]'(by omega) = v0 at ci
      have e1 : ((b : Int) + (m : Int)).toNat = b + m := by omega
      have i0 : (0 : Int) ≤ (b : Int) + (m : Int) := by omega
      have i1 : (b : Int) + (m : Int) < (G.mem.length : Int) := by omega
      have HS : Hid (Blk (wr.setCell ⟨bb, b + m, none⟩ (.int .u8 0)) bb 5 ((clearTo G.mem b (m + 1)).map (Value.int .u8))) := hs
      clear hs hbk hk hblk hlen
      go_wp2
      go_roundw
      case rel => exact ⟨m + 1, by omega, by go_num, ⟨HK.out.os, HK.out.tape, HK.out.output, by rw [World.size_setCell]; exact HK.out.size, fun x hx hs => (Below.heap_setCell wr _ _ x hs).trans (HK.out.block x hx hs)⟩, HS.out⟩
      case measure => simp [intOf]; omega
    · obtain rfl : m = n := by omega
      have hfin := hide2 (HR.out.setMem (clearTo G.mem b m) (clearTo_len _ _ _) hk hbk)
      clear hbk hk hblk
      go_wp2
      go_end0
      exact ⟨rfl, hfin.out, HK.out⟩
end Go.Proofs.Ytjikemhmnkckcaa
