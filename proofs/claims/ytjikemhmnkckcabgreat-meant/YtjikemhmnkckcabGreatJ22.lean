import Derived.Test.YtjikemhmnkckcabGreatJ21
namespace Go.Proofs.YtjikemhmnkckcabGreat
open Go.RowKit
theorem load_err {R : RSt} {q n : Int} (h : R.storeErr q n ≠ 0) : R.load q n = (0, R.storeErr q n) := by
 unfold RSt.storeErr RSt.load at *
 cases hs : Ref.shapeB n
 ·simp
 ·rw [hs] at h;simp only [Bool.true_eq_false, if_false] at h ⊢;rw [if_pos h]
theorem load_ok {R : RSt} {q n : Int} (h : R.storeErr q n = 0) : R.load q n = (Ref.ldV R.byte (q % 72057594037927936) n.toNat, 0) ∧ (n = 1 ∨ n = 2 ∨ n = 4 ∨ n = 8) ∧ (R.access q n).1 = 0 := by
 unfold RSt.storeErr RSt.load at *
 cases hs : Ref.shapeB n
 ·rw [hs] at h; simp at h
 ·rw [hs] at h;simp only [Bool.true_eq_false, if_false] at h ⊢;exact ⟨by rw [if_neg (by simp [h])], shape_of hs, h⟩
set_option maxRecDepth 100000 in
set_option maxHeartbeats 1600000 in
theorem gload_any (p : Nat) (vc : Value) (bb : Nat) (G : GSt) (R : RSt) (q n : Int) (w : World) (h : GRep w p vc bb G) (hs : SimB G R) (q1 : q ≤ 9223372036854775807) :
 Calls Tryz.prog 115 #[.pointer (some ⟨p, 0, none⟩), .int .i64 q, .int .i64 n] w fun e w' => e = .returned (.tuple #[.int .i64 (R.load q n).1, .int .i64 (R.load q n).2]) ∧ Below w.heap.size w w' := by
 have HR := hide2 h;have HS := hide2 hs
 by_cases he : R.storeErr q n = 0
 ·obtain ⟨hl, hn, ha⟩ := load_ok he;have n0 : 0 < n := by omega
  have htm := (tame_iff q).1 (access_ok ha n0).1;have hin := hs.sim.access_in ha n0;obtain ⟨a, haa⟩ := Int.eq_ofNat_of_zero_le (show 0 ≤ q % 72057594037927936 by omega);obtain ⟨m, hm⟩ := Int.eq_ofNat_of_zero_le (show 0 ≤ n by omega)
  have HV : Hid (gnum (fun i => G.mem.getD (a + i) 0) m m = (R.load q n).1) := by
   show _ = _;rw [hl, hm, Int.toNat_natCast];refine gnum_ld R.byte _ _ m (fun i hi => ?_) (by omega);have ht := access_tags ha n0 i (by omega);have hb := hs.bytes _ ht.2.1 ht.2.2;rw [haa, show ((a : Int) + (i : Int)).toNat = a + i by omega] at hb;rw [haa];exact ⟨hb.symm, hs.mem (a + i) (by omega)⟩
  have HL2 : Hid ((R.load q n).2 = 0) := by show _ = _; rw [hl]
  have HE := hide2 he;have hA := haa;have q0 : 0 ≤ q := htm.1;have hfit : a + m ≤ G.mem.length := by omega
  clear h hs he hl hn htm hin ha haa;subst hm;go_enter Tryz.func115, Tryz.ntmps115
  go_wp2_with fail
  refine (accessNumber_any p vc bb G R q m w HR.out HS.out.sim q1).mono ?_;rw [HE.out];rintro e1 w1 ⟨rfl, hb1⟩
  go_wp2_with (go_at_call 145; refine (number_any p vc bb G a m w1 (HR.out.below hb1) hfit HS.out.sim.small HS.out.mem).mono ?_; rw [HV.out]; rintro e2 w2 ⟨rfl, rfl⟩)
  go_ret2;exact ⟨by rw [HL2.out]; rfl, hb1⟩
 ·have HF := hide2 (load_err he);have heb : (R.storeErr q n != 0) = true := by simp [he]
  clear h hs he;go_enter Tryz.func115, Tryz.ntmps115
  go_wp2_with (go_at_call 144; refine (accessNumber_any p vc bb G R q n w HR.out HS.out.sim q1).mono ?_; rintro e1 w1 ⟨rfl, hb1⟩)
  go_ret2;exact ⟨by rw [HF.out]; rfl, hb1⟩
def GSt.store (G : GSt) (R : RSt) (q n v : Int) : GSt := if R.storeErr q n = 0 then ⟨G.st, G.rest, G.cs, setTo G.mem (q % 72057594037927936).toNat v n.toNat⟩ else G
theorem SimB.store_any {G : GSt} {R : RSt} (h : SimB G R) (q n v : Int) : SimB (G.store R q n v) (R.store q n v) := by
 unfold GSt.store RSt.store
 by_cases he : R.storeErr q n = 0
 ·rw [if_pos he, if_pos he];obtain ⟨_, hn, ha⟩ := load_ok he;have n0 : 0 < n := by omega
  have hin := h.sim.access_in ha n0;have e := h.store (q % 72057594037927936).toNat n.toNat v (by omega) (by omega);rw [show (((q % 72057594037927936).toNat : Nat) : Int) = q % 72057594037927936 by omega] at e;exact e
 ·rw [if_neg he, if_neg he]; exact h
theorem mem_foot (G : GSt) (mem : List Int) (p : Nat) (vc : Value) (bb b : Nat) : GFoot p vc bb ⟨G.st, G.rest, G.cs, mem⟩ b ↔ GFoot p vc bb G b := Iff.rfl
theorem GSt.store_foot (G : GSt) (R : RSt) (q n v : Int) (p : Nat) (vc : Value) (bb b : Nat) : GFoot p vc bb (G.store R q n v) b ↔ GFoot p vc bb G b := by
 unfold GSt.store; split <;> exact Iff.rfl
set_option maxRecDepth 100000 in
set_option maxHeartbeats 1600000 in
theorem gstore_any (p : Nat) (vc : Value) (bb : Nat) (G : GSt) (R : RSt) (q n v : Int) (w : World) (h : GRep w p vc bb G) (hs : SimB G R) (q1 : q ≤ 9223372036854775807) (v0 : -9223372036854775808 ≤ v) (v1 : v ≤ 9223372036854775807) :
 Calls Tryz.prog 117 #[.pointer (some ⟨p, 0, none⟩), .int .i64 q, .int .i64 n, .int .i64 v] w fun e w' => e = .returned (.int .i64 (R.storeErr q n)) ∧ GRep w' p vc bb (G.store R q n v) ∧ Kept w w' (GFoot p vc bb G) := by
 have HR := hide2 h;have HS := hide2 hs
 by_cases he : R.storeErr q n = 0
 ·obtain ⟨_, hn, ha⟩ := load_ok he;have n0 : 0 < n := by omega
  have htm := (tame_iff q).1 (access_ok ha n0).1;have hin := hs.sim.access_in ha n0;obtain ⟨a, haa⟩ := Int.eq_ofNat_of_zero_le (show 0 ≤ q % 72057594037927936 by omega);obtain ⟨m, hm⟩ := Int.eq_ofNat_of_zero_le (show 0 ≤ n by omega)
  have HF : Hid (G.store R q n v = ⟨G.st, G.rest, G.cs, setTo G.mem a v m⟩) := by
   show _ = _;unfold GSt.store;rw [if_pos he, haa, hm, Int.toNat_natCast, Int.toNat_natCast]
  have HE := hide2 he;have hA := haa;have q0 : 0 ≤ q := htm.1;have hfit : a + m ≤ G.mem.length := by omega
  clear h hs he hn htm hin ha haa;subst hm;go_enter Tryz.func117, Tryz.ntmps117
  go_wp2_with fail
  refine (accessNumber_any p vc bb G R q m w HR.out HS.out.sim q1).mono ?_;rw [HE.out];rintro e1 w1 ⟨rfl, hb1⟩
  go_wp2_with (go_at_call 147; refine (setNumber_any p vc bb G a m v w1 (HR.out.below hb1) hfit HS.out.sim.small v0 v1).mono ?_; rintro e2 w2 ⟨rfl, hG2, hk2⟩)
  go_ret;refine ⟨by rw [HE.out]; rfl, by rw [HF.out]; exact hG2, (Kept.of_below hb1 _).trans (hk2.mono fun b _ hb => .inr (.inr (.inl hb)))⟩
 ·have HF : Hid (G.store R q n v = G) := if_neg he;have heb : (R.storeErr q n != 0) = true := by simp [he]
  clear h hs he;go_enter Tryz.func117, Tryz.ntmps117
  go_wp2_with (go_at_call 144; refine (accessNumber_any p vc bb G R q n w HR.out HS.out.sim q1).mono ?_; rintro e1 w1 ⟨rfl, hb1⟩)
  go_ret;exact ⟨rfl, by rw [HF.out]; exact HR.out.below hb1, Kept.of_below hb1 _⟩
def GSt.move (G : GSt) (R : RSt) (tgt from_ n : Int) : GSt := if R.moveErr tgt from_ n = 0 ∧ 0 < n then ⟨G.st, G.rest, G.cs, copyTo G.mem (tgt % 72057594037927936).toNat (from_ % 72057594037927936).toNat n.toNat⟩ else G
theorem move_ok {R : RSt} {tgt from_ n : Int} (h : R.moveErr tgt from_ n = 0) : (R.access from_ n).1 = 0 ∧ (R.access tgt n).1 = 0 := by
 unfold RSt.moveErr at h
 by_cases e : (R.access from_ n).1 = 0
 ·rw [if_neg (by simp [e])] at h; exact ⟨e, h⟩
 ·rw [if_pos e] at h; exact absurd h e
theorem access_len {R : RSt} {q n : Int} (h : (R.access q n).1 = 0) : 0 ≤ n := by
 unfold RSt.access at h
 by_cases ha : n < 0 ∨ 65536 < n
 ·rw [if_pos ha] at h; simp at h
 ·omega
theorem SimB.move_any {G : GSt} {R : RSt} (h : SimB G R) (tgt from_ n : Int) : SimB (G.move R tgt from_ n) (R.move tgt from_ n) := by
 unfold GSt.move RSt.move
 by_cases he : R.moveErr tgt from_ n = 0
 ·obtain ⟨hf, ht⟩ := move_ok he;have n0 := access_len hf
  by_cases hn : 0 < n
  ·rw [if_pos ⟨he, hn⟩, if_pos he];have hi1 := h.sim.access_in hf hn;have hi2 := h.sim.access_in ht hn
   have e := h.move (tgt % 72057594037927936).toNat (from_ % 72057594037927936).toNat n.toNat (by omega) (by omega) (fun j hj => by
    rw [show (((from_ % 72057594037927936).toNat : Nat) : Int) = from_ % 72057594037927936 by omega];exact (access_tags hf hn j (by omega)).2)
   rw [show (((tgt % 72057594037927936).toNat : Nat) : Int) = tgt % 72057594037927936 by omega, show (((from_ % 72057594037927936).toNat : Nat) : Int) = from_ % 72057594037927936 by omega] at e;exact e
  ·rw [if_neg (fun x => hn x.2), if_pos he, show n.toNat = 0 by omega]; exact h
 ·rw [if_neg (fun x => he x.1), if_neg he]; exact h
theorem GSt.move_foot (G : GSt) (R : RSt) (tgt from_ n : Int) (p : Nat) (vc : Value) (bb b : Nat) : GFoot p vc bb (G.move R tgt from_ n) b ↔ GFoot p vc bb G b := by
 unfold GSt.move; split <;> exact Iff.rfl
set_option maxRecDepth 100000 in
set_option maxHeartbeats 1600000 in
theorem gmove_any (p : Nat) (vc : Value) (bb : Nat) (G : GSt) (R : RSt) (tgt from_ n : Int) (w : World) (h : GRep w p vc bb G) (hs : SimB G R) (t1 : tgt ≤ 9223372036854775807) (f1 : from_ ≤ 9223372036854775807) :
 Calls Tryz.prog 118 #[.pointer (some ⟨p, 0, none⟩), .int .i64 tgt, .int .i64 from_, .int .i64 n] w fun e w' => e = .returned (.int .i64 (R.moveErr tgt from_ n)) ∧ GRep w' p vc bb (G.move R tgt from_ n) ∧ Kept w w' (GFoot p vc bb G) := by
 have HR := hide2 h;have HS := hide2 hs
 by_cases hf : (R.access from_ n).1 = 0
 ·have HA := hide2 hf
  by_cases ht : (R.access tgt n).1 = 0
  ·have HB := hide2 ht;have HE : Hid (R.moveErr tgt from_ n = 0) := (if_neg (by simp [hf])).trans ht;have n0 := access_len hf
   by_cases hn : 0 < n
   ·have hi1 := hs.sim.access_in hf hn;have hi2 := hs.sim.access_in ht hn;have htf := (tame_iff from_).1 (access_ok hf hn).1;have htt := (tame_iff tgt).1 (access_ok ht hn).1;obtain ⟨a, haa⟩ := Int.eq_ofNat_of_zero_le (show 0 ≤ tgt % 72057594037927936 by omega);obtain ⟨b, hbb⟩ := Int.eq_ofNat_of_zero_le (show 0 ≤ from_ % 72057594037927936 by omega);obtain ⟨m, hm⟩ := Int.eq_ofNat_of_zero_le n0
    have HF : Hid (G.move R tgt from_ n = ⟨G.st, G.rest, G.cs, copyTo G.mem a b m⟩) := by
     show _ = _;unfold GSt.move;rw [if_pos ⟨HE.out, hn⟩, haa, hbb, hm, Int.toNat_natCast, Int.toNat_natCast, Int.toNat_natCast]
    have hA := haa;have hB := hbb;have f0 : 0 ≤ from_ := htf.1;have t0 : 0 ≤ tgt := htt.1;have fit1 : a + m ≤ G.mem.length := by omega
    have fit2 : b + m ≤ G.mem.length := by omega
    clear h hs hf ht hi1 hi2 htf htt haa hbb;subst hm;go_enter Tryz.func118, Tryz.ntmps118
    go_wp2_with fail
    refine (gaccess_any p vc bb G R from_ m w HR.out HS.out.sim f1).mono ?_;rw [HA.out];rintro e1 w1 ⟨rfl, hb1⟩
    go_wp2_with fail
    refine (gaccess_any p vc bb G R tgt m w1 (HR.out.below hb1) HS.out.sim t1).mono ?_;rw [HB.out];rintro e1 w2 ⟨rfl, hb2'⟩;have hb2 : Below w.heap.size w w2 := hb1.trans (hb2'.mono hb1.size)
    go_wp2_with (go_at_call 143; refine (copyBytes_any p vc bb G a b m w2 (HR.out.below hb2) fit1 fit2 (by omega) (by omega) HS.out.sim.small).mono ?_; rintro e2 w3 ⟨rfl, hG3, hk3⟩)
    go_ret;exact ⟨by rw [HE.out]; rfl, by rw [HF.out]; exact hG3, (Kept.of_below hb2 _).trans (hk3.mono fun b _ hb => .inr (.inr (.inl hb)))⟩
   ·have HF : Hid (G.move R tgt from_ n = G) := if_neg (fun x => hn x.2);obtain rfl : n = 0 := by omega
    clear h hs hf ht hn;go_enter Tryz.func118, Tryz.ntmps118
    go_wp2_with fail
    refine (gaccess_any p vc bb G R from_ 0 w HR.out HS.out.sim f1).mono ?_;rw [HA.out];rintro e1 w1 ⟨rfl, hb1⟩
    go_wp2_with fail
    refine (gaccess_any p vc bb G R tgt 0 w1 (HR.out.below hb1) HS.out.sim t1).mono ?_;rw [HB.out];rintro e1 w2 ⟨rfl, hb2'⟩;have hb2 : Below w.heap.size w w2 := hb1.trans (hb2'.mono hb1.size);go_wp2;go_ret;exact ⟨by rw [HE.out]; rfl, by rw [HF.out]; exact HR.out.below hb2, Kept.of_below hb2 _⟩
  ·have HE : Hid (R.moveErr tgt from_ n = (R.access tgt n).1) := if_neg (by simp [hf]);have HF : Hid (G.move R tgt from_ n = G) := if_neg (fun x => ht (by rw [← HE.out]; exact x.1));have hab : ((R.access tgt n).1 != 0) = true := by simp [ht]
   clear h hs hf ht;go_enter Tryz.func118, Tryz.ntmps118
   go_wp2_with fail
   refine (gaccess_any p vc bb G R from_ n w HR.out HS.out.sim f1).mono ?_;rw [HA.out];rintro e1 w1 ⟨rfl, hb1⟩
   go_wp2_with fail
   refine (gaccess_any p vc bb G R tgt n w1 (HR.out.below hb1) HS.out.sim t1).mono ?_;rintro e1 w2 ⟨rfl, hb2'⟩;have hb2 : Below w.heap.size w w2 := hb1.trans (hb2'.mono hb1.size);go_wp2;go_ret;exact ⟨by rw [HE.out]; rfl, by rw [HF.out]; exact HR.out.below hb2, Kept.of_below hb2 _⟩
 ·have HE : Hid (R.moveErr tgt from_ n = (R.access from_ n).1) := if_pos hf;have HF : Hid (G.move R tgt from_ n = G) := if_neg (fun x => hf (by rw [← HE.out]; exact x.1));have hab : ((R.access from_ n).1 != 0) = true := by simp [hf]
  clear h hs hf;go_enter Tryz.func118, Tryz.ntmps118
  go_wp2_with (go_at_call 119; refine (gaccess_any p vc bb G R from_ n w HR.out HS.out.sim f1).mono ?_; rintro e1 w1 ⟨rfl, hb1⟩)
  go_ret;exact ⟨by rw [HE.out]; rfl, by rw [HF.out]; exact HR.out.below hb1, Kept.of_below hb1 _⟩
theorem clearTo_getD (mem : List Int) (b m : Nat) (h : b + m ≤ mem.length) (x : Nat) : (clearTo mem b m).getD x 0 = if b ≤ x ∧ x < b + m then 0 else mem.getD x 0 := by
 induction m with
 | zero => rw [if_neg (by omega)]; rfl
 | succ m ih =>
   simp only [clearTo];rw [getD_setI _ _ _ _ (by rw [clearTo_len]; omega), ih (by omega)]
   by_cases h1 : x = b + m
   ·rw [if_pos h1, if_pos (by omega)]
   ·rw [if_neg h1]
    by_cases h2 : b ≤ x ∧ x < b + m
    ·rw [if_pos h2, if_pos (by omega)]
    ·rw [if_neg h2, if_neg (by omega)]
theorem gsz_fit {size g : Int} (h1 : 1 ≤ size) (h2 : size ≤ 16 * g) : 1 ≤ Ref.gsz size ∧ Ref.gsz size ≤ g := by unfold Ref.gsz; omega
theorem SimB.malloc {G : GSt} {R : RSt} (h : SimB G R) (size draw site : Int) : SimB (mG G R size draw site) (mR R size draw site) := by
 have hsm := sim_malloc h.sim size draw site;have hv := h.sim.rok.conf
 rcases mOut_cases R h.sim.rok size draw with ⟨_, hm⟩ | ⟨k, _, _, _, _, hm⟩ | ⟨k, s, h1, hk, hkl, hf, hs, hz, hm⟩
 ·unfold mG mR; rw [hm]; exact h
 ·unfold mG mR; rw [hm]; exact h
 ·rw [mG_ok hk hf (by rw [hm]), mR_ok hk hf (by rw [hm])] at hsm ⊢;have hfit := gsz_fit h1 hz;have hbe := Cf.begin_end hv k s hkl (by omega);have hbb := Cf.begin_bd hv k hkl s (by omega) (by have := hv.s1 k hkl; omega);have hmem := h.sim.mem;rw [h.sim.st] at hmem;have hin : (Cf.begin_ G.st R.cls k s).toNat + (16 * Ref.gsz size).toNat ≤ G.mem.length := by rw [h.sim.st]; omega
  have hgd := clearTo_getD G.mem (Cf.begin_ G.st R.cls k s).toNat (16 * Ref.gsz size).toNat hin;refine ⟨hsm, h.marks.event _, fun i hi => ?_, fun addr t1 t2 => ?_, h.fits.snoc _ (fun _ => ⟨hfit.1, by simpa using hfit.2, by have := PickMath.pick_lo (Ref.last R.log k s) (Ref.last R.log k ((s : Int) - 1)) (Ref.last R.log k ((s : Int) + 1)) draw; show (1 : Int) ≤ ((PickMath.pick _ _ _ _ : Nat) : Int); omega, by have := PickMath.pick_hi (Ref.last R.log k s) (Ref.last R.log k ((s : Int) - 1)) (Ref.last R.log k ((s : Int) + 1)) draw; show ((PickMath.pick _ _ _ _ : Nat) : Int) ≤ 14; omega⟩)⟩
  ·change i < (clearTo _ _ _).length at hi;rw [clearTo_len] at hi;show 0 ≤ (clearTo _ _ _).getD i 0 ∧ (clearTo _ _ _).getD i 0 ≤ 255;rw [hgd]
   split
   ·omega
   ·exact h.mem i hi
  ·show (clearTo _ _ _).getD addr.toNat 0 = _;rw [hgd];obtain ⟨e, he⟩ : ∃ e : Ref.Ev, e = ⟨false, k, s, Ref.tagOf R.log k s draw, Ref.gsz size, site⟩ := ⟨_, rfl⟩
   rw [← he] at t1 t2 ⊢;have h16 := hsm.there addr (by rw [← he]; exact t1)
   by_cases hsl : Cf.slot R.st R.cls addr = ((k : Int), (s : Int))
   ·have hgv : e.gives (Cf.slot R.st R.cls addr).1 (Cf.slot R.st R.cls addr).2 = true := by rw [hsl, he]; exact (gives_eq _ _ _ k s k s).2 ⟨rfl, rfl⟩
    rw [RSt.byte_gives h.marks e addr (by rw [hsl]; simp) hgv, h.sim.st];rw [if_pos]
    have hin2 : Cf.begin_ R.st R.cls k s ≤ addr ∧ addr < Cf.begin_ R.st R.cls k s + 16 * Cf.gr R.cls k := by
     rcases Cf.slot_bd R.st R.cls addr with hx | ⟨k2, s2, hx, _, _, hi⟩
     ·rw [hx] at hsl; have := congrArg Prod.fst hsl; simp at this
     ·rw [hx] at hsl;have e1 := congrArg Prod.fst hsl;have e2 := congrArg Prod.snd hsl;simp at e1 e2;obtain rfl : k2 = k := by omega
      obtain rfl : s2 = s := by omega
      simpa only [Cf.inS, Bool.and_eq_true, decide_eq_true_eq] using hi
    have hlt : addr < Cf.begin_ R.st R.cls k s + 16 * Ref.gsz size := by
     by_cases hc : addr < Cf.begin_ R.st R.cls k s + 16 * Ref.gsz size
     ·exact hc
     ·exfalso;apply t2;refine tag_rest (R := ⟨R.st, R.rest, R.cls, R.log ++ [e], R.marks⟩) hv k s hkl hs addr hin2.1 hin2.2 (.inr ?_);have hgv2 : e.gives k s = true := by rw [hsl] at hgv; exact hgv
      show Cf.begin_ R.st R.cls k s + 16 * ((R.log ++ [e]).getD (Ref.given (R.log ++ [e]) k s).toNat Ref.Ev.no).size ≤ addr;rw [size_gives _ _ _ _ hgv2, he];show _ + 16 * Ref.gsz size ≤ addr;omega
    omega
   ·have hoth : 0 ≤ (Cf.slot R.st R.cls addr).1 → e.gives (Cf.slot R.st R.cls addr).1 (Cf.slot R.st R.cls addr).2 = false ∧ e.takes (Cf.slot R.st R.cls addr).1 (Cf.slot R.st R.cls addr).2 = false := fun h0 => by
     rcases Cf.slot_bd R.st R.cls addr with hx | ⟨k2, s2, hx, _, _, hi⟩
     ·rw [hx] at h0; simp at h0
     ·rw [hx] at hsl ⊢
      constructor
      ·cases eg : e.gives ((k2 : Int), (s2 : Int)).1 ((k2 : Int), (s2 : Int)).2
       ·rfl
       ·rw [he] at eg;have := (gives_eq _ _ _ k s k2 s2).1 eg;exact absurd (by rw [this.1, this.2]) hsl
      ·rw [he]; exact takes_no _ _ _ _ _ _ _
    have hto : RSt.tag ⟨R.st, R.rest, R.cls, R.log ++ [e], R.marks⟩ addr = R.tag addr := tag_other R.st R.cls R.log e addr hoth;rw [hto] at t1 t2;rw [RSt.byte_event R e addr (fun h0 => (hoth h0).1), if_neg, h.bytes addr t1 t2];intro hc;apply hsl;refine slot_at hv k s hkl hs addr ?_ ?_
    ·rw [h.sim.st] at hc; omega
    ·rw [h.sim.st] at hc; omega
theorem SimB.free {G : GSt} {R : RSt} (h : SimB G R) (k s : Nat) (hk : k < R.cls.length) (hs : s < (Cf.sl R.cls k).toNat) (h3 : Ref.state R.log k s = 3) (site : Int) :
 SimB (G.withSlots k (freed (G.cs.getD k GCls.no).slots s G.rest site)) ⟨R.st, R.rest, R.cls, R.log ++ [⟨true, k, s, 0, 0, site⟩], R.marks⟩ := by
 have hv := h.sim.rok.conf;refine ⟨h.sim.free k s hk hs h3 site, h.marks.event _, h.mem, fun addr t1 t2 => ?_, h.fits.snoc _ (fun x => by cases x)⟩;show G.mem.getD addr.toNat 0 = _;obtain ⟨e, he⟩ : ∃ e : Ref.Ev, e = ⟨true, k, s, 0, 0, site⟩ := ⟨_, rfl⟩
 rw [← he] at t1 t2 ⊢;have hg : ∀ a b, e.gives a b = false := fun a b => by rw [he]; exact gives_no _ _ _ _ _ _ _
 rw [RSt.byte_event R e addr (fun _ => hg _ _)]
 have hoth : 0 ≤ (Cf.slot R.st R.cls addr).1 → e.gives (Cf.slot R.st R.cls addr).1 (Cf.slot R.st R.cls addr).2 = false ∧ e.takes (Cf.slot R.st R.cls addr).1 (Cf.slot R.st R.cls addr).2 = false := fun h0 => by
  refine ⟨hg _ _, ?_⟩
  rcases Cf.slot_bd R.st R.cls addr with hx | ⟨k2, s2, hx, hk2, hs2, hi⟩
  ·rw [hx] at h0; simp at h0
  ·rw [hx]
   cases et : e.takes ((k2 : Int), (s2 : Int)).1 ((k2 : Int), (s2 : Int)).2
   ·rfl
   ·exfalso;rw [he] at et;obtain ⟨rfl, rfl⟩ := (takes_eq _ _ _ k s k2 s2).1 et;simp only [Cf.inS, Bool.and_eq_true, decide_eq_true_eq] at hi;apply t2;refine tag_rest (R := ⟨R.st, R.rest, R.cls, R.log ++ [e], R.marks⟩) hv k2 s2 hk2 hs2 addr hi.1 hi.2 (.inl ?_);show Ref.state (R.log ++ [e]) k2 s2 ≠ 3;rw [state_takes R.log e k2 s2 (hg _ _) (by rw [he]; exact et) h3]; decide
 have hto : RSt.tag ⟨R.st, R.rest, R.cls, R.log ++ [e], R.marks⟩ addr = R.tag addr := tag_other R.st R.cls R.log e addr hoth;rw [hto] at t1 t2;exact h.bytes addr t1 t2
def fG (G : GSt) (R : RSt) (q site : Int) : GSt :=
 if q ≠ 0 ∧ (Ref.block R.st R.cls R.log q).2.2 = 0 then G.withSlots (Ref.block R.st R.cls R.log q).1.toNat (freed (G.cs.getD (Ref.block R.st R.cls R.log q).1.toNat GCls.no).slots (Ref.block R.st R.cls R.log q).2.1.toNat G.rest site) else G
theorem SimB.free_any {G : GSt} {R : RSt} (h : SimB G R) (q site : Int) : SimB (fG G R q site) (fR R q site) := by
 unfold fG fR
 rcases block_cases R.st R.cls R.log q with he | ⟨k, s, he, hk, hsl, h3⟩
 ·rw [if_neg (fun x => he x.2), if_neg (fun x => he x.2)]; exact h
 ·by_cases hq : q = 0
  ·rw [if_neg (fun x => x.1 hq), if_neg (fun x => x.1 hq)]; exact h
  ·rw [if_pos ⟨hq, by rw [he]⟩, if_pos ⟨hq, by rw [he]⟩, he];exact h.free k s hk hsl h3 site
theorem fG_foot {G : GSt} {R : RSt} (h : Sim G R) (q site : Int) (p : Nat) (gc : Value) (bb b : Nat) : GFoot p gc bb (fG G R q site) b ↔ GFoot p gc bb G b := by
 unfold fG
 rcases block_cases R.st R.cls R.log q with he | ⟨k, s, he, hk, hsl, h3⟩
 ·rw [if_neg (fun x => he x.2)]
 ·by_cases hq : q = 0
  ·rw [if_neg (fun x => x.1 hq)]
  ·rw [if_pos ⟨hq, by rw [he]⟩, he];exact withSlots_foot G k _ (by rw [h.ok.len]; exact hk) p gc bb b
theorem gfree_st (p : Nat) (gc : Value) (bb : Nat) (G : GSt) (R : RSt) (q site : Int) (w : World) (h : GRep w p gc bb G) (hs : Sim G R) (q1 : q ≤ 9223372036854775807) :
 Calls Tryz.prog 111 #[.pointer (some ⟨p, 0, none⟩), .int .i64 q, .int .i64 site] w fun e w' => e = .returned (.int .i64 (fOut R q)) ∧ GRep w' p gc bb (fG G R q site) ∧ Kept w w' (GFoot p gc bb G) := by
 refine (gfree_all p gc bb G R q site w h hs q1).mono ?_;rintro e w' ⟨rfl, hk, hc⟩;unfold fDoes at hc;refine ⟨rfl, ?_, hk⟩;unfold fG
 rcases hc with ⟨hd, hR⟩ | ⟨k, s, hd, hb, _, _, _, hR⟩
 ·rw [if_neg hd]; exact hR
 ·rw [if_pos hd, hb]; exact hR
def RSt.lays (R : RSt) (d : ByteArray) : Nat → RSt
 | 0 => R
 | m + 1 => (R.lays d m).mark (16 + m) (byteAt d m)
theorem SimB.mark {G : GSt} {R : RSt} (h : SimB G R) (a : Nat) (b : Int) (ha : a < G.mem.length) (b0 : 0 ≤ b) (b1 : b ≤ 255) : SimB ⟨G.st, G.rest, G.cs, G.mem.set a b⟩ (R.mark a b) := by
 have hs := h.store a 1 b (by omega) (by omega)
 have e1 : R.stores a b 1 = R.mark a b := by
  show (R.stores a b 0).mark ((a : Int) + (0 : Nat)) (Ref.stV b 0 % 256) = _;have : Ref.stV b 0 % 256 = b := by unfold Ref.stV; omega
  rw [this];show R.mark ((a : Int) + (0 : Nat)) b = _;simp
 rw [e1] at hs
 have e2 : setTo G.mem a b 1 = G.mem.set a b := by
  apply List.ext_getElem?;intro i;have hl := setTo_len G.mem a b 1;have hg := setTo_getD G.mem a b 1 (by omega) i
  by_cases hi : i < G.mem.length
  ·rw [List.getElem?_eq_getElem (by omega), List.getElem?_eq_getElem (by simpa using hi)]
   congr 1
   rw [List.getD_eq_getElem?_getD, List.getElem?_eq_getElem (by omega)] at hg;simp only [Option.getD_some] at hg;rw [hg, List.getElem_set]
   by_cases e : a = i
   ·subst e;rw [if_pos (by omega), if_pos rfl];simp [shrV];omega
   ·rw [if_neg (by omega), if_neg e, List.getD_eq_getElem?_getD, List.getElem?_eq_getElem hi];rfl
  ·rw [List.getElem?_eq_none (by omega), List.getElem?_eq_none (by simp; omega)]
 rw [e2] at hs;exact hs
theorem RSt.lays_same (R : RSt) (d : ByteArray) (m : Nat) : (R.lays d m).st = R.st ∧ (R.lays d m).rest = R.rest ∧ (R.lays d m).cls = R.cls ∧ (R.lays d m).log = R.log := by
 induction m with
 | zero => exact ⟨rfl, rfl, rfl, rfl⟩
 | succ m ih => exact ih
theorem SimB.lays {G : GSt} {R : RSt} (h : SimB G R) (d : ByteArray) (m : Nat) (hm : 16 + m ≤ G.mem.length) : SimB ⟨G.st, G.rest, G.cs, dMem G.mem d m⟩ (R.lays d m) := by
 induction m with
 | zero => exact h
 | succ m ih =>
   have hb := byteAt_bd d m;have := (ih (by omega)).mark (16 + m) (byteAt d m) (by show 16 + m < (dMem G.mem d m).length; rw [dMem_len]; omega) hb.1 hb.2;exact this
end Go.Proofs.YtjikemhmnkckcabGreat
namespace Go.Proofs.YtjikemhmnkckcabGreat
open Go.RowKit
attribute [local go_sem ↓] Go.wp_at_zero Go.wp_at_succ
def rg (r : List Int) (k : Nat) : Int := r.getD k 0
theorem m_reg {w : World} {mb : Nat} {ph vcode : Value} {r : List Int} {inp : ByteArray} {heard : Int} {vd : Value} {drawn : Int} {vo : Value} {pc next steps en ex : Int} {rep : List Value}
 (h : Blk w mb 81 (mCells ph vcode r inp heard vd drawn vo pc next steps en ex rep)) (hr : r.length = 8) (k : Nat) (hk : k < 8) : w.cell? ⟨mb, 2 + k, none⟩ = some (.int .i64 (rg r k)) := by
 refine h.cell ?_;unfold mCells rg;rw [List.append_assoc, List.append_assoc, List.getElem?_append_right (by simp), List.getElem?_append_left (by simp; omega)];simp only [List.length_cons, List.length_nil];rw [show 2 + k - (0 + 1 + 1) = k by omega, List.getElem?_map, List.getElem?_eq_getElem (by omega)];simp [List.getD_eq_getElem?_getD, List.getElem?_eq_getElem (show k < r.length by omega)]
theorem m_set (ph vcode : Value) (r : List Int) (inp : ByteArray) (heard : Int) (vd : Value) (drawn : Int) (vo : Value) (pc next steps en ex : Int) (rep : List Value) (hr : r.length = 8) (k : Nat) (hk : k < 8) (v : Int) :
 (mCells ph vcode r inp heard vd drawn vo pc next steps en ex rep).set (2 + k) (.int .i64 v) = mCells ph vcode (r.set k v) inp heard vd drawn vo pc next steps en ex rep := by
 unfold mCells;rw [List.append_assoc, List.append_assoc, List.set_append_right _ _ (by simp), List.set_append_left _ _ (by simp; omega)];simp only [List.length_cons, List.length_nil];rw [show 2 + k - (0 + 1 + 1) = k by omega, ← List.map_set, ← List.append_assoc, ← List.append_assoc]
def bOf (b : Bool) : Int := if b = true then 1 else 0
set_option maxHeartbeats 400000 in
theorem oneIf_any (b : Bool) (w : World) : Calls Tryz.prog 108 #[.bool b] w fun e w' => e = .returned (.int .i64 (bOf b)) ∧ w = w' := by
 cases b
 ·go_enter Tryz.func108, Tryz.ntmps108;go_wp2;go_ret;exact ⟨rfl, rfl⟩
 ·go_enter Tryz.func108, Tryz.ntmps108;go_wp2;go_ret;exact ⟨rfl, rfl⟩
set_option maxRecDepth 100000 in
set_option maxHeartbeats 1600000 in
theorem result_set (mb : Nat) (a b c : Int) (w : World) (b0 : 0 ≤ b) (b1 : b ≤ 255) (c0 : 0 ≤ c) (c1 : c ≤ 255) :
 Calls Tryz.prog 77 #[.pointer (some ⟨mb, 0, none⟩), .agg #[.int .i64 1, .int .i64 a, .int .i64 b, .int .i64 c]] w fun e w' => e = .returned (.int .i64 (256 * b + c)) ∧ Below w.heap.size w w' := by
 go_enter Tryz.func77, Tryz.ntmps77;go_wp2;go_ret;exact ⟨rfl, (Below.refl _ _).alloc (Nat.le_refl _) _⟩
set_option maxRecDepth 100000 in
set_option maxHeartbeats 1600000 in
theorem result_base (mb : Nat) (a b c : Int) (w : World) (b0 : 0 ≤ b) (b1 : b ≤ 255) (c0 : 0 ≤ c) (c1 : c ≤ 255) :
 Calls Tryz.prog 77 #[.pointer (some ⟨mb, 0, none⟩), .agg #[.int .i64 10, .int .i64 a, .int .i64 b, .int .i64 c]] w fun e w' => e = .returned (.int .i64 (16 + 256 * b + c)) ∧ Below w.heap.size w w' := by
 go_enter Tryz.func77, Tryz.ntmps77;go_wp2;go_ret;exact ⟨rfl, (Below.refl _ _).alloc (Nat.le_refl _) _⟩
def sumV (op x y : Int) : Int := if op = 2 then wrap64 (x + y) else if op = 3 then wrap64 (x - y) else if op = 4 then (if x < y then 1 else 0) else (if x = y then 1 else 0)
set_option maxRecDepth 100000 in
set_option maxHeartbeats 3200000 in
theorem result_sum (mb : Nat) (ph vcode : Value) (r : List Int) (inp : ByteArray) (heard : Int) (vd : Value) (drawn : Int) (vo : Value) (pc next steps en ex : Int) (rep : List Value) (op a : Int) (b c : Nat) (w : World)
 (h : Blk w mb 81 (mCells ph vcode r inp heard vd drawn vo pc next steps en ex rep)) (hr : r.length = 8) (hb : b < 8) (hc : c < 8) (ho : op = 2 ∨ op = 3 ∨ op = 4 ∨ op = 5) :
 Calls Tryz.prog 77 #[.pointer (some ⟨mb, 0, none⟩), .agg #[.int .i64 op, .int .i64 a, .int .i64 (b : Int), .int .i64 (c : Int)]] w fun e w' => e = .returned (.int .i64 (sumV op (rg r b) (rg r c))) ∧ Below w.heap.size w w' := by
 obtain ⟨wa, hwa⟩ : ∃ wa, wa = w.alloc (.cells #[.int .i64 op, .int .i64 a, .int .i64 (b : Int), .int .i64 (c : Int)] 60) := ⟨_, rfl⟩
 have hbl : Below w.heap.size w wa := by rw [hwa]; exact (Below.refl _ _).alloc (Nat.le_refl _) _
 have HX : Hid (Blk wa w.heap.size 60 [.int .i64 op, .int .i64 a, .int .i64 (b : Int), .int .i64 (c : Int)]) := by show Blk _ _ _ _; rw [hwa]; exact Blk.alloc _ _ _
 have HM := hide2 (h.below hbl h.lt);have HB := hide2 hbl;have rb := m_reg HM.out hr b hb;have rc := m_reg HM.out hr c hc;have x0 := HX.out.cell (j := 0) rfl;have x2 := HX.out.cell (j := 2) rfl;have x3 := HX.out.cell (j := 3) rfl;have hbI : (b : Int) < 8 := by omega
 have hcI : (c : Int) < 8 := by omega
 generalize rg r b = vb at *;generalize rg r c = vc at *;clear h hbl
 rcases ho with rfl | rfl | rfl | rfl
 ·go_enter Tryz.func77, Tryz.ntmps77;go_upto_region 1 with (fail);rw [← hwa];clear hwa;go_wp2
  go_quiet (fail)
  go_upto_region 7 with (fail);obtain ⟨wb, hwb⟩ : ∃ wb, wb = wa.drewN nq := ⟨_, rfl⟩
  rw [← hwb];have hbb : Below wa.heap.size wa wb := by rw [hwb]; exact below_drewN (Below.refl _ _) _
  have HBB : Hid (Below w.heap.size w wb) := HB.out.trans (hbb.mono HB.out.size);have rc' := (hbb.cell (p := ⟨mb, 2 + c, none⟩) HM.out.lt).trans rc;have x3' := (hbb.cell (p := ⟨w.heap.size, 3, none⟩) HX.out.lt).trans x3;have x0' := (hbb.cell (p := ⟨w.heap.size, 0, none⟩) HX.out.lt).trans x0;clear hwb hbb rb rc x0 x2 x3 nq
  go_quiet (fail)
  go_wp2;go_ret;exact ⟨rfl, below_drewN HBB.out _⟩
 ·go_enter Tryz.func77, Tryz.ntmps77;go_upto_region 1 with (fail);rw [← hwa];clear hwa;go_wp2
  go_quiet (fail)
  go_upto_region 7 with (fail);obtain ⟨wb, hwb⟩ : ∃ wb, wb = wa.drewN nq := ⟨_, rfl⟩
  rw [← hwb];have hbb : Below wa.heap.size wa wb := by rw [hwb]; exact below_drewN (Below.refl _ _) _
  have HBB : Hid (Below w.heap.size w wb) := HB.out.trans (hbb.mono HB.out.size);have rc' := (hbb.cell (p := ⟨mb, 2 + c, none⟩) HM.out.lt).trans rc;have x3' := (hbb.cell (p := ⟨w.heap.size, 3, none⟩) HX.out.lt).trans x3;have x0' := (hbb.cell (p := ⟨w.heap.size, 0, none⟩) HX.out.lt).trans x0;clear hwb hbb rb rc x0 x2 x3 nq
  go_quiet (fail)
  go_wp2;go_ret;exact ⟨rfl, below_drewN HBB.out _⟩
 ·go_enter Tryz.func77, Tryz.ntmps77;go_upto_region 1 with (fail);rw [← hwa];clear hwa;go_wp2
  go_quiet (fail)
  go_upto_region 7 with (fail);obtain ⟨wb, hwb⟩ : ∃ wb, wb = wa.drewN nq := ⟨_, rfl⟩
  rw [← hwb];have hbb : Below wa.heap.size wa wb := by rw [hwb]; exact below_drewN (Below.refl _ _) _
  have HBB : Hid (Below w.heap.size w wb) := HB.out.trans (hbb.mono HB.out.size);have rc' := (hbb.cell (p := ⟨mb, 2 + c, none⟩) HM.out.lt).trans rc;have x3' := (hbb.cell (p := ⟨w.heap.size, 3, none⟩) HX.out.lt).trans x3;have x0' := (hbb.cell (p := ⟨w.heap.size, 0, none⟩) HX.out.lt).trans x0;clear hwb hbb rb rc x0 x2 x3 nq
  go_quiet (fail)
  go_wp2_with (go_at_call 108; refine (oneIf_any _ _).mono ?_; rintro e1 w1 ⟨rfl, rfl⟩)
  go_ret;exact ⟨ret_int (by unfold sumV bOf; simp), below_drewN HBB.out _⟩
 ·go_enter Tryz.func77, Tryz.ntmps77;go_upto_region 1 with (fail);rw [← hwa];clear hwa;go_wp2
  go_quiet (fail)
  go_upto_region 7 with (fail);obtain ⟨wb, hwb⟩ : ∃ wb, wb = wa.drewN nq := ⟨_, rfl⟩
  rw [← hwb];have hbb : Below wa.heap.size wa wb := by rw [hwb]; exact below_drewN (Below.refl _ _) _
  have HBB : Hid (Below w.heap.size w wb) := HB.out.trans (hbb.mono HB.out.size);have rc' := (hbb.cell (p := ⟨mb, 2 + c, none⟩) HM.out.lt).trans rc;have x3' := (hbb.cell (p := ⟨w.heap.size, 3, none⟩) HX.out.lt).trans x3;have x0' := (hbb.cell (p := ⟨w.heap.size, 0, none⟩) HX.out.lt).trans x0;clear hwb hbb rb rc x0 x2 x3 nq
  go_quiet (fail)
  go_wp2_with (go_at_call 108; refine (oneIf_any _ _).mono ?_; rintro e1 w1 ⟨rfl, rfl⟩)
  go_ret;exact ⟨ret_int (by unfold sumV bOf; simp), below_drewN HBB.out _⟩
def hearV (inp : ByteArray) (heard : Nat) : Int := if heard < inp.size then byteAt inp heard else -1
def hearN (inp : ByteArray) (heard : Nat) : Nat := if heard < inp.size then heard + 1 else heard
set_option maxRecDepth 100000 in
set_option maxHeartbeats 1600000 in
theorem hear_any (mb : Nat) (ph vcode : Value) (r0 r1 r2 r3 r4 r5 r6 r7 : Int) (inp : ByteArray) (heard : Nat) (vd : Value) (drawn : Int) (vo : Value) (pc next steps en ex : Int) (rep : List Value) (w : World) (hi : (inp.size : Int) ≤ 9223372036854775807)
 (h : Blk w mb 81 (mCells ph vcode [r0, r1, r2, r3, r4, r5, r6, r7] inp heard vd drawn vo pc next steps en ex rep)) :
 Calls Tryz.prog 78 #[.pointer (some ⟨mb, 0, none⟩)] w fun e w' => e = .returned (.int .i64 (hearV inp heard)) ∧ Blk w' mb 81 (mCells ph vcode [r0, r1, r2, r3, r4, r5, r6, r7] inp (hearN inp heard) vd drawn vo pc next steps en ex rep) ∧ Kept w w' (· = mb) ∧ w'.heap.size = w.heap.size := by
 have H := hide2 h;have c10 := h.cell (j := 10) rfl;have c11 := h.cell (j := 11) rfl;have f11 := h.frozen 11;clear h
 by_cases hk : heard < inp.size
 ·have hI : (heard : Int) < (inp.size : Int) := by omega
  have hv : byteAt inp heard = (inp[heard].toNat : Int) := byteAt_lt hk;have hb := byteAt_bd inp heard;rw [hv] at hb;have HV : Hid (hearV inp heard = (inp[heard].toNat : Int)) := by show _ = _; unfold hearV; rw [if_pos hk, hv]
  have HN : Hid (hearN inp heard = heard + 1) := by show _ = _; unfold hearN; rw [if_pos hk]
  clear hv;go_enter Tryz.func78, Tryz.ntmps78;go_wp2
  go_quiet (fail)
  go_wp2
  go_quiet (fail)
  go_wp2;go_ret;exact ⟨by rw [HV.out]; rfl, by rw [HN.out]; exact (show Blk (w.drewN _) mb 81 _ from H.out).setCell 11 _, ((Kept.refl w _).drewN _).setCell _ _ rfl, by simp⟩
 ·have hI : (inp.size : Int) ≤ (heard : Int) := by omega
  have HV : Hid (hearV inp heard = -1) := by show _ = _; unfold hearV; rw [if_neg hk]
  have HN : Hid (hearN inp heard = heard) := by show _ = _; unfold hearN; rw [if_neg hk]
  go_enter Tryz.func78, Tryz.ntmps78;go_wp2
  go_quiet (fail)
  go_wp2;go_ret;exact ⟨by rw [HV.out]; rfl, by rw [HN.out]; exact H.out, (Kept.refl w _).drewN _, rfl⟩
structure DRow (w : World) (a : Option Addr) (cap : Nat) (ds : List Int) : Prop where
 len : ds.length ≤ cap
 cap : cap ≤ maxLen
 cells : 0 < ds.length → ∃ g off, a = some ⟨g, off, none⟩ ∧ g < w.heap.size ∧ ∀ i, i < ds.length → w.cell? ⟨g, off + i, none⟩ = some (.int .i64 (ds.getD i 0))
theorem DRow.kept {w w' : World} {a : Option Addr} {cap : Nat} {ds : List Int} (h : DRow w a cap ds) (hs : w.heap.size ≤ w'.heap.size) (hk : ∀ g off, a = some ⟨g, off, none⟩ → g < w.heap.size → w'.heap[g]? = w.heap[g]?) : DRow w' a cap ds := by
 refine ⟨h.len, h.cap, fun h0 => ?_⟩;obtain ⟨g, off, e, hg, hc⟩ := h.cells h0;refine ⟨g, off, e, by omega, fun i hi => ?_⟩;rw [← hc i hi];unfold World.cell?;rw [hk g off e hg]
set_option maxRecDepth 100000 in
set_option maxHeartbeats 1600000 in
theorem draw_yes (mb : Nat) (ph vcode : Value) (r0 r1 r2 r3 r4 r5 r6 r7 : Int) (inp : ByteArray) (heard : Int) (da : Option Addr) (dcap : Nat) (ds : List Int) (drawn : Nat) (vo : Value) (pc next steps en ex : Int) (rep : List Value) (w : World) (hd : DRow w da dcap ds) (hk : drawn < ds.length)
 (h : Blk w mb 81 (mCells ph vcode [r0, r1, r2, r3, r4, r5, r6, r7] inp heard (.slice da ds.length dcap) drawn vo pc next steps en ex rep)) :
 Calls Tryz.prog 109 #[.pointer (some ⟨mb, 0, none⟩)] w fun e w' => e = .returned (.tuple #[.int .i64 (ds.getD drawn 0), .bool true]) ∧ Blk w' mb 81 (mCells ph vcode [r0, r1, r2, r3, r4, r5, r6, r7] inp heard (.slice da ds.length dcap) ((drawn + 1 : Nat) : Int) vo pc next steps en ex rep) ∧ Kept w w' (· = mb) ∧ w'.heap.size = w.heap.size := by
 have H := hide2 h;have c12 := h.cell (j := 12) rfl;have c13 := h.cell (j := 13) rfl;have f13 := h.frozen 13;have hl := hd.len;have hc := hd.cap;unfold maxLen at hc;obtain ⟨g, off, rfl, hg, hcell⟩ := hd.cells (by omega);have d0 := hcell drawn hk;have hI : (drawn : Int) < (ds.length : Int) := by omega
 generalize ds.getD drawn 0 = dv at *;clear h hcell hd;go_enter Tryz.func109, Tryz.ntmps109;go_wp2
 go_quiet (fail)
 go_wp2
 go_quiet (fail)
 go_wp2;go_ret2;exact ⟨rfl, (show Blk (w.drewN _) mb 81 _ from H.out).setCell 13 _, ((Kept.refl w _).drewN _).setCell _ _ rfl, by simp⟩
set_option maxRecDepth 100000 in
set_option maxHeartbeats 1600000 in
theorem draw_no (mb : Nat) (ph vcode : Value) (r0 r1 r2 r3 r4 r5 r6 r7 : Int) (inp : ByteArray) (heard : Int) (da : Option Addr) (n dcap : Nat) (drawn : Nat) (vo : Value) (pc next steps en ex : Int) (rep : List Value) (w : World) (hk : n ≤ drawn)
 (h : Blk w mb 81 (mCells ph vcode [r0, r1, r2, r3, r4, r5, r6, r7] inp heard (.slice da n dcap) drawn vo pc next steps en ex rep)) :
 Calls Tryz.prog 109 #[.pointer (some ⟨mb, 0, none⟩)] w fun e w' => e = .returned (.tuple #[.int .i64 0, .bool false]) ∧ Blk w' mb 81 (mCells ph vcode [r0, r1, r2, r3, r4, r5, r6, r7] inp heard (.slice da n dcap) drawn vo pc next steps 4 ex rep) ∧ Kept w w' (· = mb) ∧ w'.heap.size = w.heap.size := by
 have H := hide2 h;have c12 := h.cell (j := 12) rfl;have c13 := h.cell (j := 13) rfl;have c18 := h.cell (j := 18) rfl;have f18 := h.frozen 18;have hI : (n : Int) ≤ (drawn : Int) := by omega
 clear h;go_enter Tryz.func109, Tryz.ntmps109;go_wp2
 go_quiet (fail)
 go_wp2;go_ret2;exact ⟨rfl, (show Blk (w.drewN _) mb 81 _ from H.out).setCell 18 _, ((Kept.refl w _).drewN _).setCell _ _ rfl, by simp⟩
end Go.Proofs.YtjikemhmnkckcabGreat
