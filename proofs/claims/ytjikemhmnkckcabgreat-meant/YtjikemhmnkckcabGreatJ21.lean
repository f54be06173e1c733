import Derived.Test.YtjikemhmnkckcabGreatJ20
import Derived.Laws.CopyOwn
namespace Go.Proofs.YtjikemhmnkckcabGreat
open Go.RowKit
set_option maxRecDepth 100000 in
set_option maxHeartbeats 800000 in
theorem accessNumber_any (p : Nat) (vc : Value) (bb : Nat) (G : GSt) (R : RSt) (q n : Int) (w : World) (h : GRep w p vc bb G) (hs : Sim G R) (q1 : q ≤ 9223372036854775807) :
 Calls Tryz.prog 144 #[.pointer (some ⟨p, 0, none⟩), .int .i64 q, .int .i64 n] w fun e w' => e = .returned (.int .i64 (R.storeErr q n)) ∧ Below w.heap.size w w' := by
 have HR := hide2 h;have HS := hide2 hs;clear h hs
 cases hsh : Ref.shapeB n
 ·have HE : Hid (R.storeErr q n = 2) := if_pos hsh;have h1 : (n != 1) = true := by rw [bne_iff_ne]; rintro rfl; simp [Ref.shapeB] at hsh
  have h2 : (n != 2) = true := by rw [bne_iff_ne]; rintro rfl; simp [Ref.shapeB] at hsh
  have h4 : (n != 4) = true := by rw [bne_iff_ne]; rintro rfl; simp [Ref.shapeB] at hsh
  have h8 : (n != 8) = true := by rw [bne_iff_ne]; rintro rfl; simp [Ref.shapeB] at hsh
  clear hsh;go_enter Tryz.func144, Tryz.ntmps144;go_wp2
  all_goals
   go_ret;exact ⟨by rw [HE.out]; rfl, Below.refl _ _⟩
 ·have HE : Hid (R.storeErr q n = (R.access q n).1) := if_neg (by simp [hsh]);have hn := shape_of hsh;clear hsh
  rcases hn with rfl | rfl | rfl | rfl
  all_goals
   go_enter Tryz.func144, Tryz.ntmps144
   go_wp2_with (go_at_call 119; refine (gaccess_any p vc bb G R q _ w HR.out HS.out q1).mono ?_; rintro e2 w2 ⟨rfl, hb2⟩)
   go_ret;exact ⟨by rw [HE.out]; rfl, hb2⟩
set_option maxRecDepth 100000 in
set_option maxHeartbeats 1600000 in
theorem number_any (p : Nat) (vc : Value) (bb : Nat) (G : GSt) (a n : Nat) (w : World) (h : GRep w p vc bb G) (han : a + n ≤ G.mem.length) (hsm : G.mem.length ≤ 1000000) (hm : ∀ i, i < G.mem.length → 0 ≤ G.mem.getD i 0 ∧ G.mem.getD i 0 ≤ 255) :
 Calls Tryz.prog 145 #[.pointer (some ⟨p, 0, none⟩), .int .i64 (a : Int), .int .i64 (n : Int)] w fun e w' => e = .returned (.int .i64 (gnum (fun i => G.mem.getD (a + i) 0) n n)) ∧ w = w' := by
 have c3 := h.blk.cell (j := 3) rfl;have hmem := hide2 h.mem;have HM := hide2 hm;clear h hm;go_enter Tryz.func145, Tryz.ntmps145;go_wp2
 go_loopw [7, 8] (fun v i wr => ∃ m : Nat, m ≤ n ∧ i = .int .i64 ((n : Int) - 1 - (m : Int)) ∧ v = .int .i64 (gnum (fun i => G.mem.getD (a + i) 0) n m) ∧ w = wr) (fun _ i _ => (intOf i + 1).toNat)
 case atStart => exact ⟨0, by omega, by simp, rfl, rfl⟩
 case round =>
  obtain ⟨m, hmn, rfl, rfl, rfl⟩ := hrel
  by_cases hlt : m < n
  ·have HN : Hid (gnum (fun i => G.mem.getD (a + i) 0) n (m + 1) = wrap64 (wrap64 (gnum (fun i => G.mem.getD (a + i) 0) n m * 256) + G.mem.getD (a + (n - 1 - m)) 0)) := rfl;have hb := HM.out (a + (n - 1 - m)) (by omega);have b0 := hb.1;have b1 := hb.2;have ci := hmem.out.cell (j := a + (n - 1 - m)) (v := .int .u8 (G.mem.getD (a + (n - 1 - m)) 0)) (by rw [List.getElem?_map, List.getElem?_eq_getElem (by omega), List.getD_eq_getElem?_getD, List.getElem?_eq_getElem (by omega)]; rfl);have e1 : ((a : Int) + ((n : Int) - 1 - (m : Int))).toNat = a + (n - 1 - m) := by omega
   have i0 : (0 : Int) ≤ (a : Int) + ((n : Int) - 1 - (m : Int)) := by omega
   have i1 : (a : Int) + ((n : Int) - 1 - (m : Int)) < (G.mem.length : Int) := by omega
   have j0 : (0 : Int) ≤ (n : Int) - 1 - (m : Int) := by omega
   have HJ : Hid ((n : Int) - 1 - (m : Int) - 1 = (n : Int) - 1 - ((m + 1 : Nat) : Int)) := by show _ = _; omega
   generalize G.mem.getD (a + (n - 1 - m)) 0 = bt at *;have HOR := hide2 (or_i64 (wrap64 (gnum (fun i => G.mem.getD (a + i) 0) n m * 256)) bt (by unfold wrap64; omega) b0 (by omega));generalize gnum (fun i => G.mem.getD (a + i) 0) n m = vv at *;clear hb;go_wp2
   go_roundw
   case rel => exact ⟨m + 1, by omega, by rw [HJ.out], by rw [HOR.out, HN.out], trivial⟩
   case measure => simp [intOf]; omega
  ·obtain rfl : m = n := by omega
   go_wp2;go_ret;exact ⟨rfl, rfl⟩
set_option maxRecDepth 100000 in
set_option maxHeartbeats 1600000 in
theorem setNumber_any (p : Nat) (vc : Value) (bb : Nat) (G : GSt) (a n : Nat) (v : Int) (w : World) (h : GRep w p vc bb G) (han : a + n ≤ G.mem.length) (hsm : G.mem.length ≤ 1000000) (v0 : -9223372036854775808 ≤ v) (v1 : v ≤ 9223372036854775807) :
 Calls Tryz.prog 147 #[.pointer (some ⟨p, 0, none⟩), .int .i64 (a : Int), .int .i64 (n : Int), .int .i64 v] w fun e w' => e = .returned (.tuple #[]) ∧ GRep w' p vc bb ⟨G.st, G.rest, G.cs, setTo G.mem a v n⟩ ∧ Kept w w' (· = bb) := by
 have HR := hide2 h;clear h;go_enter Tryz.func147, Tryz.ntmps147;go_wp2
 go_loopw [3, 8] (fun x i wr => ∃ m : Nat, m ≤ n ∧ i = .int .i64 (m : Int) ∧ x = .int .i64 (shrV v m) ∧ Kept w wr (· = bb) ∧ Blk wr bb 5 ((setTo G.mem a v m).map (Value.int .u8))) (fun _ i _ => n - (intOf i).toNat)
 case atStart => exact ⟨0, by omega, by simp, rfl, ⟨rfl, rfl, rfl, Nat.le_refl _, fun _ _ _ => rfl⟩, HR.out.mem⟩
 case round =>
  obtain ⟨m, hmn, rfl, rfl, hk, hbk⟩ := hrel;have hblk : Blk wr p 79 [.int .i64 G.st, .int .i64 G.rest, vc, .slice (some ⟨bb, 0, none⟩) G.mem.length G.mem.length] := (hk.block p HR.out.blk.lt (fun e => HR.out.apB e.symm)).trans HR.out.blk;have c3 := hblk.cell (j := 3) rfl;have HK : Hid (Kept w wr (· = bb)) := hk
  by_cases hlt : m < n
  ·have hlen := setTo_len G.mem a v m;have hs := hbk.setCell (a + m) (.int .u8 (shrV v m % 256));rw [show ((setTo G.mem a v m).map (Value.int .u8)).set (a + m) (.int .u8 (shrV v m % 256)) = (setTo G.mem a v (m + 1)).map (Value.int .u8) by simp [setTo, List.map_set]] at hs;have ci := hbk.cell (j := a + m) (v := .int .u8 ((setTo G.mem a v m)[a + m]'(by omega))) (by rw [List.getElem?_map, List.getElem?_eq_getElem (by omega)]; rfl);have fi := hbk.frozen (a + m);generalize (setTo G.mem a v m)[a + m]'(by omega) = x0 at ci;have e1 : ((a : Int) + (m : Int)).toNat = a + m := by omega
   have i0 : (0 : Int) ≤ (a : Int) + (m : Int) := by omega
   have i1 : (a : Int) + (m : Int) < (G.mem.length : Int) := by omega
   have hv := shrV_bd v m v0 v1;have x0' := hv.1;have x1' := hv.2;have HV : Hid (shrV v (m + 1) = shrV v m / 256) := rfl;have HS : Hid (Blk (wr.setCell ⟨bb, a + m, none⟩ (.int .u8 (shrV v m % 256))) bb 5 ((setTo G.mem a v (m + 1)).map (Value.int .u8))) := hs;clear hs hbk hk hblk hlen hv;generalize shrV v m = xv at *;go_wp2
   go_roundw
   case rel => exact ⟨m + 1, by omega, by go_num, by rw [HV.out], ⟨HK.out.os, HK.out.tape, HK.out.output, by rw [World.size_setCell]; exact HK.out.size, fun x hx hs => (Below.heap_setCell wr _ _ x hs).trans (HK.out.block x hx hs)⟩, HS.out⟩
   case measure => simp [intOf]; omega
  ·obtain rfl : m = n := by omega
   have hfin := hide2 (HR.out.setMem (setTo G.mem a v m) (setTo_len _ _ _ _) hk hbk);clear hbk hk hblk;go_wp2;go_end0;exact ⟨rfl, hfin.out, HK.out⟩
theorem step_copy_keep {P : Program} {ops : Array Oper} {o : Oper} {a : Act} {w : World} {K : Act → World → Prop} {Q : Exit → Act → World → Prop} {E : Prop} (hgd : o.guard = none) (d s : Operand) (dT sT : TypeId)
 (ho : o.op = .call { callee := .builtin .copy, args := #[d, s], argTypes := #[dT, sT] }) (elem : TypeId) (hu : P.underlying dT = some (.slice elem)) (hsz : (P.info? elem).map (·.size) = some 1)
 (g off dLen dCap : Nat) (ad : Addr) (sLen sCap : Nat) (hd : a.eval d = .slice (some ⟨g, off, none⟩) dLen dCap) (hs : a.eval s = .slice (some ad) sLen sCap)
 (cur : List Value) (t : TypeId) (hg : Blk w g t cur) (cs : List Value) (hn : cs.length = Nat.min sLen dLen)
 (hsrc : ∀ j v, cs[j]? = some v → w.cell? (ad.add j) = some v) (hfit : off + cs.length ≤ cur.length) (h1 : ∀ v ∈ cs, v.oneCell' = true)
 (h : ∀ w', Hid (Blk w' g t (splice cur off cs)) → Hid (Kept w w' (· = g)) → K (a.put o.dst (goInt cs.length)) w') :
 if Region.wanted o (yielded ops a.tmps) = true then Oper.wp P o a w K Q else E := by
 have hw : Region.wanted o (yielded ops a.tmps) = true := by simp [Region.wanted, hgd]
 rw [if_pos hw];have hrun := run_copy_row (P := P) w dT sT o.type elem g off dLen dCap ad sLen sCap cur.toArray t cs hu hsz hg hn hsrc (by simpa using hfit) h1;unfold Oper.wp;simp [execOp, ho, resolve, invoke, builtin, hd, hs, hrun, Result.andThen];refine h _ (show Blk _ _ _ _ from ?_) (show Kept _ _ _ from ⟨rfl, rfl, rfl, by simp [World.setRow], fun k _ hs => setRow_other w g k _ hs⟩);unfold Blk
 simpa [splice] using setRow_heap w g _ _ t _ hg
theorem splice_map (mem : List Int) (a b n : Nat) (hb : b + n ≤ mem.length) : splice (mem.map (Value.int .u8)) a (((mem.drop b).take n).map (Value.int .u8)) = (copyTo mem a b n).map (Value.int .u8) := by
 have l2 : ((mem.drop b).take n).length = n := by simp; omega
 unfold splice copyTo;rw [List.length_map, l2, List.map_append, List.map_append];simp only [List.map_take, List.map_drop]
set_option maxRecDepth 100000 in
set_option maxHeartbeats 1600000 in
theorem copyBytes_any (p : Nat) (vc : Value) (bb : Nat) (G : GSt) (a b n : Nat) (w : World) (h : GRep w p vc bb G) (ha : a + n ≤ G.mem.length) (hb : b + n ≤ G.mem.length) (ha' : a < G.mem.length) (hb' : b < G.mem.length) (hsm : G.mem.length ≤ 1000000) :
 Calls Tryz.prog 143 #[.pointer (some ⟨p, 0, none⟩), .int .i64 (a : Int), .int .i64 (b : Int), .int .i64 (n : Int)] w fun e w' => e = .returned (.tuple #[]) ∧ GRep w' p vc bb ⟨G.st, G.rest, G.cs, copyTo G.mem a b n⟩ ∧ Kept w w' (· = bb) := by
 have HR := hide2 h;have c3 := h.blk.cell (j := 3) rfl;have hmem := hide2 h.mem;clear h;have a0 : (0 : Int) ≤ (a : Int) := by omega
 have b0 : (0 : Int) ≤ (b : Int) := by omega
 obtain ⟨cs, hcs⟩ : ∃ cs, cs = ((G.mem.drop b).take n).map (Value.int .u8) := ⟨_, rfl⟩
 have HCS := hide2 hcs;have hcl : cs.length = n := by rw [hcs]; simp; omega
 have HCELL : Hid (∀ j v, cs[j]? = some v → w.drew.cell? ((⟨bb, b, none⟩ : Addr).add j) = some v) := fun j v hj => by
  rw [World.cell?_drew, show (⟨bb, b, none⟩ : Addr).add j = ⟨bb, b + j, none⟩ by simp [Addr.add]];refine hmem.out.cell ?_;rw [hcs, List.getElem?_map, List.getElem?_take] at hj
  split at hj
  ·rw [List.getElem?_drop] at hj; rw [List.getElem?_map]; exact hj
  ·cases hj
 have HONE : Hid (∀ v ∈ cs, v.oneCell' = true) := fun v hv => by
  rw [hcs] at hv;obtain ⟨x, _, rfl⟩ := List.mem_map.1 hv;rfl
 clear hcs;have HSP := hide2 (splice_map G.mem a b n hb);go_enter Tryz.func143, Tryz.ntmps143;obtain ⟨an, han⟩ : ∃ an, an = a + n := ⟨_, rfl⟩
 obtain ⟨bn, hbn⟩ : ∃ bn, bn = b + n := ⟨_, rfl⟩
 have wa : IntKind.i64.wrap ((a : Int) + (n : Int)) = (an : Int) := by rw [IntKind.wrap_i64]; omega
 have wb : IntKind.i64.wrap ((b : Int) + (n : Int)) = (bn : Int) := by rw [IntKind.wrap_i64]; omega
 have x1 : an ≤ G.mem.length := by omega
 have x2 : bn ≤ G.mem.length := by omega
 have x3 : a ≤ an := by omega
 have x4 : b ≤ bn := by omega
 have x5 : ¬ G.mem.length = a := by omega
 have x6 : ¬ G.mem.length = b := by omega
 have HAN := hide2 han;have HBN := hide2 hbn;clear han hbn
 go_region_law ((refine step_copy_keep (by rfl) _ _ _ _ (by rfl) 5 Tryz.underlying77 (by kernel_rfl) bb a (an - a) (G.mem.length - a) ⟨bb, b, none⟩ (bn - b) (G.mem.length - b) (by rfl) (by rfl) (G.mem.map (Value.int .u8)) 5 (show Blk w.drew _ _ _ from hmem.out) cs (by rw [hcl, HAN.out, HBN.out]; simp) (fun j v hj => HCELL.out j v hj) (by simp; omega) HONE.out ?_; intro w7 hb7 hk7))
 all_goals
  have hk : Hid (Kept w w7 (· = bb)) := ⟨hk7.out.os, hk7.out.tape, hk7.out.output, hk7.out.size, hk7.out.block⟩
  have hB : Hid (Blk w7 bb 5 ((copyTo G.mem a b n).map (Value.int .u8))) := by
   show Blk _ _ _ _;rw [← HSP.out, ← HCS.out]; exact hb7.out
  have hfin := hide2 (HR.out.setMem (copyTo G.mem a b n) (copyTo_len _ _ _ _ ha hb) hk.out hB.out);clear hb7 hk7;go_end0;exact ⟨rfl, hfin.out, hk.out⟩
def Fits (R : RSt) : Prop := ∀ i, i < R.log.length → (R.log.getD i Ref.Ev.no).back = false → 1 ≤ (R.log.getD i Ref.Ev.no).size ∧ (R.log.getD i Ref.Ev.no).size ≤ Cf.gr R.cls (R.log.getD i Ref.Ev.no).cls.toNat ∧ 1 ≤ (R.log.getD i Ref.Ev.no).tag ∧ (R.log.getD i Ref.Ev.no).tag ≤ 14
structure SimB (G : GSt) (R : RSt) : Prop where
 sim : Sim G R
 marks : MarksOk R
 mem : ∀ i, i < G.mem.length → 0 ≤ G.mem.getD i 0 ∧ G.mem.getD i 0 ≤ 255
 bytes : ∀ addr : Int, R.tag addr ≠ -1 → R.tag addr ≠ 15 → G.mem.getD addr.toNat 0 = R.byte addr
 fits : Fits R
theorem Sim.small {G : GSt} {R : RSt} (h : Sim G R) : G.mem.length ≤ 1000000 := by
 have h1 := h.mem;have h2 := Cf.gran_bd h.rok.conf R.cls.length (Nat.le_refl _);have h3 := h.rok.conf.n1;rw [h.st] at h1;omega
theorem Sim.there {G : GSt} {R : RSt} (h : Sim G R) (addr : Int) (ht : R.tag addr ≠ -1) : 16 ≤ addr ∧ addr < (G.mem.length : Int) := by
 have hv := h.rok.conf;have hm := h.mem;rw [h.st] at hm;unfold RSt.tag Cf.tag at ht
 by_cases h1 : 16 ≤ addr ∧ addr < 16 * (1 + R.st)
 ·have h2 := Cf.gran_mono hv 0 R.cls.length (by omega) (Nat.le_refl _);have h3 : Cf.gran R.st R.cls 0 = 2 + R.st := by simp only [Cf.gran]; omega
  omega
 ·rw [if_neg h1] at ht
  rcases Cf.slot_bd R.st R.cls addr with hsl | ⟨k, s, hsl, hk, hs, hin⟩
  ·rw [hsl] at ht; simp at ht
  ·have he := Cf.begin_end hv k s hk (by omega);have hb := Cf.begin_bd hv k hk s (by omega) (by have := hv.s1 k hk; omega);simp only [Cf.inS, Bool.and_eq_true, decide_eq_true_eq] at hin;omega
theorem accFrom_zero (tag : Int → Int) (t a : Int) (f i : Nat) (h : (Ref.accFrom tag t a f i).1 = 0) : ∀ j : Nat, i ≤ j → j < i + f → tag (a + j) = t ∧ t ≠ -1 ∧ t ≠ 15 := by
 induction f generalizing i with
 | zero => intro j h1 h2; omega
 | succ f ih =>
   intro j h1 h2;simp only [Ref.accFrom] at h
   by_cases e1 : tag (a + i) = -1
   ·rw [if_pos e1] at h; simp at h
   ·rw [if_neg e1] at h
    by_cases e2 : tag (a + i) = 15 ∨ tag (a + i) ≠ t
    ·rw [if_pos e2] at h; simp at h
    ·rw [if_neg e2] at h
     by_cases ej : j = i
     ·subst ej; omega
     ·exact ih (i + 1) h j (by omega) (by omega)
theorem access_tags {R : RSt} {q n : Int} (h : (R.access q n).1 = 0) (hn : 0 < n) (j : Nat) (hj : (j : Int) < n) : R.tag (q % 72057594037927936 + j) = q / 72057594037927936 ∧ R.tag (q % 72057594037927936 + j) ≠ -1 ∧ R.tag (q % 72057594037927936 + j) ≠ 15 := by
 have ht := access_ok h hn;unfold RSt.access at h;rw [if_neg (by omega), if_neg (by omega), ht.1, if_pos rfl] at h;have := accFrom_zero _ _ _ _ _ h j (by omega) (by omega);omega
theorem Sim.access_in {G : GSt} {R : RSt} (h : Sim G R) {q n : Int} (ha : (R.access q n).1 = 0) (hn : 0 < n) : 16 ≤ q % 72057594037927936 ∧ q % 72057594037927936 + n ≤ (G.mem.length : Int) := by
 have h0 := h.there _ (access_tags ha hn 0 (by omega)).2.1;have h1 := h.there _ (access_tags ha hn (n - 1).toNat (by omega)).2.1;omega
theorem tag_same {R R' : RSt} (h1 : R'.st = R.st) (h2 : R'.cls = R.cls) (h3 : R'.log = R.log) (addr : Int) : R'.tag addr = R.tag addr := by unfold RSt.tag; rw [h1, h2, h3]
theorem Sim.memory {G : GSt} {R R' : RSt} (h : Sim G R) (mem : List Int) (hl : mem.length = G.mem.length) (h1 : R'.st = R.st) (h2 : R'.rest = R.rest) (h3 : R'.cls = R.cls) (h4 : R'.log = R.log) : Sim ⟨G.st, G.rest, G.cs, mem⟩ R' := by
 refine ⟨h.st.trans h1.symm, ?_, ⟨?_, ?_, ?_, ?_⟩, ?_, h.rok.same h1 h2 h3 h4, h.bd, ?_⟩
 ·show (mem.length : Int) = _;rw [hl, h3]; exact h.mem
 ·rw [h4]; exact h.log.cls0
 ·rw [h4]; exact h.log.slot0
 ·rw [h4, h3]; exact h.log.slot1
 ·rw [h4]; exact h.log.vir
 ·rw [h2, h3]; exact ⟨h.ok.conf, h.ok.rest_, h.ok.len, h.ok.bg, h.ok.by_, h.ok.sl⟩
 ·rw [h2, h3, h4]; exact h.slots
theorem SimB.write {G : GSt} {R R' : RSt} (h : SimB G R) (mem : List Int) (hl : mem.length = G.mem.length) (h1 : R'.st = R.st) (h2 : R'.rest = R.rest) (h3 : R'.cls = R.cls) (h4 : R'.log = R.log)
 (hm : MarksOk R') (hb : ∀ i, i < mem.length → 0 ≤ mem.getD i 0 ∧ mem.getD i 0 ≤ 255)
 (hs : ∀ addr : Int, 16 ≤ addr → R.tag addr ≠ -1 → R.tag addr ≠ 15 → mem.getD addr.toNat 0 = R'.byte addr) : SimB ⟨G.st, G.rest, G.cs, mem⟩ R' := by
 refine ⟨h.sim.memory mem hl h1 h2 h3 h4, hm, hb, fun addr t1 t2 => ?_, by unfold Fits; rw [h3, h4]; exact h.fits⟩;rw [tag_same h1 h3 h4] at t1 t2;exact hs addr (h.sim.there addr t1).1 t1 t2
theorem MarksOk.stores {R : RSt} (h : MarksOk R) (a value : Int) (n : Nat) : MarksOk (R.stores a value n) := by
 induction n with
 | zero => exact h
 | succ n ih => exact ih.mark _ _ (by omega) (by omega)
theorem MarksOk.moves {R : RSt} (h : MarksOk R) (a b : Int) (n : Nat) : MarksOk (R.moves a b n) := by
 induction n with
 | zero => exact h
 | succ n ih => exact ih.mark _ _ (h.byte_bd _).1 (h.byte_bd _).2
theorem MarksOk.copies {R : RSt} (h : MarksOk R) (a b : Int) (n : Nat) : MarksOk (R.copies a b n) := by
 induction n with
 | zero => exact h
 | succ n ih => exact ih.mark _ _ (ih.byte_bd _).1 (ih.byte_bd _).2
theorem SimB.store {G : GSt} {R : RSt} (h : SimB G R) (a n : Nat) (v : Int) (han : a + n ≤ G.mem.length) (hn : n ≤ 8) : SimB ⟨G.st, G.rest, G.cs, setTo G.mem a v n⟩ (R.stores a v n) := by
 have hsame := R.stores_same a v n;refine h.write _ (setTo_len _ _ _ _) hsame.1 hsame.2.1 hsame.2.2.1 hsame.2.2.2.1 (h.marks.stores _ _ _) (fun i hi => ?_) (fun addr h16 t1 t2 => ?_)
 ·rw [setTo_getD _ _ _ _ han]
  split
  ·omega
  ·exact h.mem i (by rw [← setTo_len G.mem a v n]; exact hi)
 ·rw [setTo_getD _ _ _ _ han, RSt.stores_byte]
  by_cases hc : a ≤ addr.toNat ∧ addr.toNat < a + n
  ·rw [if_pos hc, if_pos (by omega), show (addr - (a : Int)).toNat = addr.toNat - a by omega, shrV_st v _ (by omega)]
  ·rw [if_neg hc, if_neg (by omega)]; exact h.bytes addr t1 t2
theorem SimB.move {G : GSt} {R : RSt} (h : SimB G R) (a b n : Nat) (ha : a + n ≤ G.mem.length) (hb : b + n ≤ G.mem.length) (hr : ∀ j : Nat, j < n → R.tag ((b : Int) + j) ≠ -1 ∧ R.tag ((b : Int) + j) ≠ 15) : SimB ⟨G.st, G.rest, G.cs, copyTo G.mem a b n⟩ (R.moves a b n) := by
 have hsame := R.moves_same a b n;refine h.write _ (copyTo_len _ _ _ _ ha hb) hsame.1 hsame.2.1 hsame.2.2.1 hsame.2.2.2.1 (h.marks.moves _ _ _) (fun i hi => ?_) (fun addr h16 t1 t2 => ?_)
 ·rw [copyTo_len _ _ _ _ ha hb] at hi;rw [copyTo_getD _ _ _ _ ha hb]
  split
  ·exact h.mem _ (by omega)
  ·exact h.mem i hi
 ·rw [copyTo_getD _ _ _ _ ha hb, RSt.moves_byte]
  by_cases hc : a ≤ addr.toNat ∧ addr.toNat < a + n
  ·rw [if_pos hc, if_pos (by omega)];have e := hr (addr.toNat - a) (by omega);have e2 := h.bytes ((b : Int) + ((addr.toNat - a : Nat) : Int)) e.1 e.2;rw [show ((b : Int) + ((addr.toNat - a : Nat) : Int)).toNat = b + (addr.toNat - a) by omega] at e2;rw [e2, show (b : Int) + ((addr.toNat - a : Nat) : Int) = b + (addr - a) by omega]
  ·rw [if_neg hc, if_neg (by omega)]; exact h.bytes addr t1 t2
theorem SimB.copy {G : GSt} {R : RSt} (h : SimB G R) (a b n : Nat) (ha : a + n ≤ G.mem.length) (hb : b + n ≤ G.mem.length) (hd : b + n ≤ a ∨ a + n ≤ b) (hr : ∀ j : Nat, j < n → R.tag ((b : Int) + j) ≠ -1 ∧ R.tag ((b : Int) + j) ≠ 15) : SimB ⟨G.st, G.rest, G.cs, copyTo G.mem a b n⟩ (R.copies a b n) := by
 have hsame := R.copies_same a b n;refine h.write _ (copyTo_len _ _ _ _ ha hb) hsame.1 hsame.2.1 hsame.2.2.1 hsame.2.2.2.1 (h.marks.copies _ _ _) (fun i hi => ?_) (fun addr h16 t1 t2 => ?_)
 ·rw [copyTo_len _ _ _ _ ha hb] at hi;rw [copyTo_getD _ _ _ _ ha hb]
  split
  ·exact h.mem _ (by omega)
  ·exact h.mem i hi
 ·rw [copyTo_getD _ _ _ _ ha hb, RSt.copies_byte R a b n (by omega)]
  by_cases hc : a ≤ addr.toNat ∧ addr.toNat < a + n
  ·rw [if_pos hc, if_pos (by omega)];have e := hr (addr.toNat - a) (by omega);have e2 := h.bytes ((b : Int) + ((addr.toNat - a : Nat) : Int)) e.1 e.2;rw [show ((b : Int) + ((addr.toNat - a : Nat) : Int)).toNat = b + (addr.toNat - a) by omega] at e2;rw [e2, show (b : Int) + ((addr.toNat - a : Nat) : Int) = b + (addr - a) by omega]
  ·rw [if_neg hc, if_neg (by omega)]; exact h.bytes addr t1 t2
theorem state_of (log : List Ref.Ev) (k s : Int) : Ref.state log k s = 2 ∧ Ref.given log k s < 0 ∨ Ref.state log k s = 3 ∧ 0 ≤ Ref.given log k s ∧ Ref.gone log k s < 0 ∨ Ref.state log k s = 4 ∧ 0 ≤ Ref.given log k s ∧ 0 ≤ Ref.gone log k s := by
 unfold Ref.state
 by_cases h1 : Ref.given log k s < 0
 ·rw [if_pos h1]; exact .inl ⟨rfl, h1⟩
 ·rw [if_neg h1]
  by_cases h2 : Ref.gone log k s < 0
  ·rw [if_pos h2]; exact .inr (.inl ⟨rfl, by omega, h2⟩)
  ·rw [if_neg h2]; exact .inr (.inr ⟨rfl, by omega, by omega⟩)
theorem match_uniq {st rest : Int} {cls : List (Int × Int)} (hv : Cf.Valid st rest cls) (log : List Ref.Ev) (a t : Int) (k s k' s' : Nat) (hk : k < cls.length) (hs : s < (Cf.sl cls k).toNat) (hk' : k' < cls.length) (hs' : s' < (Cf.sl cls k').toNat)
 (hm : Ref.matchB st cls log a t k s = true) (hm' : Ref.matchB st cls log a t k' s' = true) : k' = k ∧ s' = s := by
 have key : ∀ k s, k < cls.length → s < (Cf.sl cls k).toNat → Ref.matchB st cls log a t k s = true → Cf.slot st cls a = ((k : Int), (s : Int)) := fun k s hk hs hm => by
  have hbe := ((match_iff _ _ _ _ _ _ _).1 hm).1;have hi := Cf.inS_begin hv k s hk;rw [hbe] at hi;exact Cf.slot_found hv _ k s hk hs hi
 have e1 := key k s hk hs hm;rw [key k' s' hk' hs' hm'] at e1;have e2 := congrArg Prod.fst e1;have e3 := congrArg Prod.snd e1;simp at e2 e3;omega
theorem block_iff {st rest : Int} {cls : List (Int × Int)} (hv : Cf.Valid st rest cls) (log : List Ref.Ev) (q : Int) (k s : Nat) :
 Ref.block st cls log q = ((k : Int), (s : Int), 0) ↔ k < cls.length ∧ s < (Cf.sl cls k).toNat ∧ Ref.tameB q = true ∧ Cf.begin_ st cls k s = q % 72057594037927936 ∧ Ref.last log k s = q / 72057594037927936 ∧ Ref.state log k s = 3 := by
 unfold Ref.block
 cases ht : Ref.tameB q
 ·simp
 ·rw [if_pos rfl];change Ref.blockFrom st cls log (q % 72057594037927936) (q / 72057594037927936) cls.length 0 = _ ↔ _
  by_cases hx : ∃ k0 s0, k0 < cls.length ∧ s0 < (Cf.sl cls k0).toNat ∧ Ref.matchB st cls log (q % 72057594037927936) (q / 72057594037927936) k0 s0 = true
  ·obtain ⟨k0, s0, hk0, hs0, hm0⟩ := hx;have hm := (match_iff _ _ _ _ _ _ _).1 hm0;rw [blockFrom_one _ _ _ _ _ k0 s0 _ _ (by omega) (by omega) hs0 hm0 (fun k' s' h1 h2 h3 => match_uniq hv log _ _ k0 s0 k' s' hk0 hs0 (by omega) h2 hm0 h3)]
   constructor
   ·intro h
    by_cases h4 : Ref.state log k0 s0 = 4
    ·rw [if_pos h4] at h; simp at h
    ·rw [if_neg h4] at h;have e1 := congrArg Prod.fst h;have e2 := congrArg (fun x => x.2.1) h;simp at e1 e2;obtain rfl : k0 = k := by omega
     obtain rfl : s0 = s := by omega
     refine ⟨hk0, hs0, rfl, hm.1, hm.2.1, ?_⟩
     rcases state_of log k0 s0 with h | h | h <;> omega
   ·rintro ⟨h1, h2, _, h4, h5, h6⟩;have := match_uniq hv log _ _ k0 s0 k s hk0 hs0 h1 h2 hm0 ((match_iff _ _ _ _ _ _ _).2 ⟨h4, h5, by omega⟩);obtain ⟨rfl, rfl⟩ := this;rw [if_neg (by omega)]
  ·rw [blockFrom_none _ _ _ _ _ _ _ (fun k' s' _ h2 h3 => by
    cases e : Ref.matchB st cls log (q % 72057594037927936) (q / 72057594037927936) k' s'
    ·rfl
    ·exact absurd ⟨k', s', by omega, h3, e⟩ hx)]
   constructor
   ·intro h; simp at h
   ·rintro ⟨h1, h2, _, h4, h5, h6⟩;exact absurd ⟨k, s, h1, h2, (match_iff _ _ _ _ _ _ _).2 ⟨h4, h5, by omega⟩⟩ hx
theorem given_other (log : List Ref.Ev) (e : Ref.Ev) (k s : Int) (hg : e.gives k s = false) : Ref.given (log ++ [e]) k s = Ref.given log k s := by
 rw [Ref.given_snoc, if_neg (by rw [hg]; decide)]
theorem last_other (log : List Ref.Ev) (e : Ref.Ev) (k s : Int) (hg : e.gives k s = false) : Ref.last (log ++ [e]) k s = Ref.last log k s := by
 unfold Ref.last;have h1 := Ref.given_hi log k s;rw [given_other log e k s hg]
 by_cases h : Ref.given log k s < 0
 ·rw [if_pos h, if_pos h]
 ·rw [if_neg h, if_neg h, Ref.getD_old _ _ _ (by omega)]
theorem size_other (log : List Ref.Ev) (e : Ref.Ev) (k s : Int) (hg : e.gives k s = false) (h0 : 0 ≤ Ref.given log k s) : (log ++ [e]).getD (Ref.given (log ++ [e]) k s).toNat Ref.Ev.no = log.getD (Ref.given log k s).toNat Ref.Ev.no := by
 have h1 := Ref.given_hi log k s;rw [given_other log e k s hg, Ref.getD_old _ _ _ (by omega)]
theorem state_other (log : List Ref.Ev) (e : Ref.Ev) (k s : Int) (hg : e.gives k s = false) (ht : e.takes k s = false) : Ref.state (log ++ [e]) k s = Ref.state log k s := by
 unfold Ref.state;rw [given_other log e k s hg, Ref.gone_snoc log e k s hg];have := Ref.gone_lo log k s
 by_cases h : 0 ≤ Ref.gone log k s
 ·rw [if_pos h]
 ·rw [if_neg h, ht, show Ref.gone log k s = -1 by omega]; rfl
theorem state_gives (log : List Ref.Ev) (e : Ref.Ev) (k s : Int) (hg : e.gives k s = true) : Ref.state (log ++ [e]) k s = 3 := by
 unfold Ref.state;rw [Ref.given_snoc, if_pos hg, Ref.gone_gives log e k s hg, if_neg (by omega), if_pos (by omega)]
theorem state_takes (log : List Ref.Ev) (e : Ref.Ev) (k s : Int) (hg : e.gives k s = false) (ht : e.takes k s = true) (h3 : Ref.state log k s = 3) : Ref.state (log ++ [e]) k s = 4 := by
 rcases state_of log k s with h | h | h
 ·omega
 ·unfold Ref.state;have hn : ¬ (0 ≤ Ref.gone log k s) := by omega
  have hg2 : ¬ (Ref.given log k s < 0) := by omega
  rw [given_other log e k s hg, Ref.gone_snoc log e k s hg, if_neg hg2, if_neg hn, if_pos ht, if_neg (by omega)]
 ·omega
theorem last_gives (log : List Ref.Ev) (e : Ref.Ev) (k s : Int) (hg : e.gives k s = true) : Ref.last (log ++ [e]) k s = e.tag := by
 unfold Ref.last;rw [Ref.given_snoc, if_pos hg, if_neg (by omega), Int.toNat_natCast, Ref.getD_new]
theorem size_gives (log : List Ref.Ev) (e : Ref.Ev) (k s : Int) (hg : e.gives k s = true) : (log ++ [e]).getD (Ref.given (log ++ [e]) k s).toNat Ref.Ev.no = e := by
 rw [Ref.given_snoc, if_pos hg, Int.toNat_natCast, Ref.getD_new]
theorem tag_other (st : Int) (cls : List (Int × Int)) (log : List Ref.Ev) (e : Ref.Ev) (addr : Int) (hg : 0 ≤ (Cf.slot st cls addr).1 → e.gives (Cf.slot st cls addr).1 (Cf.slot st cls addr).2 = false ∧ e.takes (Cf.slot st cls addr).1 (Cf.slot st cls addr).2 = false) :
 Cf.tag st cls (log ++ [e]) addr = Cf.tag st cls log addr := by
 unfold Cf.tag
 by_cases h1 : 16 ≤ addr ∧ addr < 16 * (1 + st)
 ·rw [if_pos h1, if_pos h1]
 ·rw [if_neg h1, if_neg h1]
  by_cases h2 : (Cf.slot st cls addr).1 < 0
  ·rw [if_pos h2, if_pos h2]
  ·rw [if_neg h2, if_neg h2];obtain ⟨a, b⟩ := hg (by omega);rw [state_other _ _ _ _ a b]
   by_cases h3 : Ref.state log (Cf.slot st cls addr).1 (Cf.slot st cls addr).2 = 3
   ·have hn : ¬ (Ref.state log (Cf.slot st cls addr).1 (Cf.slot st cls addr).2 ≠ 3) := fun x => x h3
    rw [if_neg hn, if_neg hn]
    rcases state_of log (Cf.slot st cls addr).1 (Cf.slot st cls addr).2 with h | h | h
    ·omega
    ·rw [size_other _ _ _ _ a h.2.1]
    ·omega
   ·rw [if_pos h3, if_pos h3]
theorem static_slot {st rest : Int} {cls : List (Int × Int)} (hv : Cf.Valid st rest cls) (addr : Int) (h : addr < 16 * (1 + st)) : Cf.slot st cls addr = (-1, -1) := by
 rcases Cf.slot_bd st cls addr with hsl | ⟨k, s, hsl, hk, hs, hin⟩
 ·exact hsl
 ·exfalso;simp only [Cf.inS, Bool.and_eq_true, decide_eq_true_eq] at hin;have h1 := Cf.gran_mono hv 0 k (by omega) (by omega);have h2 : Cf.gran st cls 0 = 1 + st + 1 := rfl;have h3 := hv.g0 k hk;have h4 : 0 ≤ (s : Int) * Cf.gr cls k := Int.mul_nonneg (by omega) (by omega);have h5 := hin.1;unfold Cf.begin_ at h5;omega
theorem slot_at {st rest : Int} {cls : List (Int × Int)} (hv : Cf.Valid st rest cls) (k s : Nat) (hk : k < cls.length) (hs : s < (Cf.sl cls k).toNat) (addr : Int) (h0 : Cf.begin_ st cls k s ≤ addr) (h1 : addr < Cf.begin_ st cls k s + 16 * Cf.gr cls k) : Cf.slot st cls addr = ((k : Int), (s : Int)) :=
 Cf.slot_found hv addr k s hk hs (by simp only [Cf.inS, Bool.and_eq_true, decide_eq_true_eq]; exact ⟨h0, h1⟩)
theorem tag_live {R : RSt} (hv : Cf.Valid R.st R.rest R.cls) (k s : Nat) (hk : k < R.cls.length) (hs : s < (Cf.sl R.cls k).toNat) (h3 : Ref.state R.log k s = 3) (addr : Int) (h0 : Cf.begin_ R.st R.cls k s ≤ addr)
 (h1 : addr < Cf.begin_ R.st R.cls k s + 16 * (R.log.getD (Ref.given R.log k s).toNat Ref.Ev.no).size) (hz : (R.log.getD (Ref.given R.log k s).toNat Ref.Ev.no).size ≤ Cf.gr R.cls k) : R.tag addr = Ref.last R.log k s := by
 have hsl := slot_at hv k s hk hs addr h0 (by omega)
 have hb : ¬ (16 ≤ addr ∧ addr < 16 * (1 + R.st)) := fun x => by
  rw [static_slot hv addr x.2] at hsl;have := congrArg Prod.fst hsl;simp at this
 unfold RSt.tag Cf.tag;rw [if_neg hb, hsl];simp only [Int.toNat_natCast];rw [if_neg (by omega), if_neg (by simp [h3]), if_neg (by omega)];unfold Ref.last
 rcases state_of R.log k s with h | h | h
 ·omega
 ·rw [if_neg (by omega)]
 ·omega
theorem tag_rest {R : RSt} (hv : Cf.Valid R.st R.rest R.cls) (k s : Nat) (hk : k < R.cls.length) (hs : s < (Cf.sl R.cls k).toNat) (addr : Int) (h0 : Cf.begin_ R.st R.cls k s ≤ addr) (h1 : addr < Cf.begin_ R.st R.cls k s + 16 * Cf.gr R.cls k)
 (h : Ref.state R.log k s ≠ 3 ∨ Cf.begin_ R.st R.cls k s + 16 * (R.log.getD (Ref.given R.log k s).toNat Ref.Ev.no).size ≤ addr) : R.tag addr = 15 := by
 have hsl := slot_at hv k s hk hs addr h0 h1
 have hb : ¬ (16 ≤ addr ∧ addr < 16 * (1 + R.st)) := fun x => by
  rw [static_slot hv addr x.2] at hsl;have := congrArg Prod.fst hsl;simp at this
 unfold RSt.tag Cf.tag;rw [if_neg hb, hsl];simp only [Int.toNat_natCast];rw [if_neg (by omega)]
 by_cases h3 : Ref.state R.log k s = 3
 ·rw [if_neg (by simp [h3]), if_pos (by rcases h with h | h; exact absurd h3 h; exact h)]
 ·rw [if_pos h3]
theorem givenTo_at (log : List Ref.Ev) (k s : Int) (m : Nat) (h : 0 ≤ Ref.givenTo log k s m) : (log.getD (Ref.givenTo log k s m).toNat Ref.Ev.no).gives k s = true := by
 induction m with
 | zero => simp [Ref.givenTo] at h
 | succ m ih =>
   simp only [Ref.givenTo] at h ⊢
   split
   ·rename_i hg; rw [Int.toNat_natCast]; exact hg
   ·rename_i hg; rw [if_neg hg] at h; exact ih h
theorem given_at (log : List Ref.Ev) (k s : Int) (h : 0 ≤ Ref.given log k s) : (log.getD (Ref.given log k s).toNat Ref.Ev.no).back = false ∧ (log.getD (Ref.given log k s).toNat Ref.Ev.no).cls = k ∧ (log.getD (Ref.given log k s).toNat Ref.Ev.no).slot = s := by
 have := givenTo_at log k s log.length h;simp only [Ref.Ev.gives, Bool.and_eq_true, Bool.not_eq_true', beq_iff_eq] at this;exact ⟨this.1.1, this.1.2, this.2⟩
theorem Fits.size {R : RSt} (h : Fits R) (k s : Nat) (hg : 0 ≤ Ref.given R.log k s) : 1 ≤ (R.log.getD (Ref.given R.log k s).toNat Ref.Ev.no).size ∧ (R.log.getD (Ref.given R.log k s).toNat Ref.Ev.no).size ≤ Cf.gr R.cls k := by
 have g2 := Ref.given_hi R.log k s;obtain ⟨h1, h2, _⟩ := given_at R.log k s hg;have h3 := h (Ref.given R.log k s).toNat (by omega) h1;rw [h2, Int.toNat_natCast] at h3;exact ⟨h3.1, h3.2.1⟩
theorem Fits.tag {R : RSt} (h : Fits R) (k s : Nat) (hg : 0 ≤ Ref.given R.log k s) : 1 ≤ Ref.last R.log k s ∧ Ref.last R.log k s ≤ 14 := by
 have g2 := Ref.given_hi R.log k s;obtain ⟨h1, _, _⟩ := given_at R.log k s hg;have h3 := h (Ref.given R.log k s).toNat (by omega) h1;unfold Ref.last;rw [if_neg (by omega)];exact h3.2.2
theorem Fits.snoc {R : RSt} (h : Fits R) (e : Ref.Ev) (he : e.back = false → 1 ≤ e.size ∧ e.size ≤ Cf.gr R.cls e.cls.toNat ∧ 1 ≤ e.tag ∧ e.tag ≤ 14) : Fits ⟨R.st, R.rest, R.cls, R.log ++ [e], R.marks⟩ := by
 intro i hi hb;change i < (R.log ++ [e]).length at hi;change ((R.log ++ [e]).getD i Ref.Ev.no).back = false at hb;show 1 ≤ ((R.log ++ [e]).getD i Ref.Ev.no).size ∧ ((R.log ++ [e]).getD i Ref.Ev.no).size ≤ Cf.gr R.cls ((R.log ++ [e]).getD i Ref.Ev.no).cls.toNat ∧ 1 ≤ ((R.log ++ [e]).getD i Ref.Ev.no).tag ∧ ((R.log ++ [e]).getD i Ref.Ev.no).tag ≤ 14
 by_cases hlt : i < R.log.length
 ·rw [Ref.getD_old R.log e i hlt] at hb ⊢;exact h i hlt hb
 ·have : i = R.log.length := by simp at hi; omega
  subst this;rw [Ref.getD_new] at hb ⊢;exact he hb
end Go.Proofs.YtjikemhmnkckcabGreat
