import Derived.Test.YtjikemhmnkckcaaJ44
/- The program's Load, Store, Move, Usable. -/
namespace Go.Proofs.Ytjikemhmnkckcaa
open Go.RowKit

theorem load_err {R : RSt} {q n : Int} (h : R.storeErr q n ≠ 0) : R.load q n = (0, R.storeErr q n) := by
  unfold RSt.storeErr RSt.load at *
  cases hs : Ref.shapeB n
  · simp
  · rw [hs] at h
    simp only [Bool.true_eq_false, if_false] at h ⊢
    rw [if_pos h]
theorem load_ok {R : RSt} {q n : Int} (h : R.storeErr q n = 0) : R.load q n = (Ref.ldV R.byte (q % 72057594037927936) n.toNat, 0) ∧ (n = 1 ∨ n = 2 ∨ n = 4 ∨ n = 8) ∧ (R.access q n).1 = 0 := by
  unfold RSt.storeErr RSt.load at *
  cases hs : Ref.shapeB n
  · rw [hs] at h; simp at h
  · rw [hs] at h
    simp only [Bool.true_eq_false, if_false] at h ⊢
    exact ⟨by rw [if_neg (by simp [h])], shape_of hs, h⟩

set_option maxRecDepth 100000 in
set_option maxHeartbeats 1600000 in
theorem gload_any (p : Nat) (vc : Value) (bb : Nat) (G : GSt) (R : RSt) (q n : Int) (w : World) (h : GRep w p vc bb G) (hs : SimB G R) (q1 : q ≤ 9223372036854775807) :
    Calls Try.prog 32 #[.pointer (some ⟨p, 0, none⟩), .int .i64 q, .int .i64 n] w fun e w' => e = .returned (.tuple #[.int .i64 (R.load q n).1, .int .i64 (R.load q n).2]) ∧ Below w.heap.size w w' := by
  have HR := hide2 h
  have HS := hide2 hs
  by_cases he : R.storeErr q n = 0
  · obtain ⟨hl, hn, ha⟩ := load_ok he
    have n0 : 0 < n := by omega
    have htm := (tame_iff q).1 (access_ok ha n0).1
    have hin := hs.sim.access_in ha n0
    obtain ⟨a, haa⟩ := Int.eq_ofNat_of_zero_le (show 0 ≤ q % 72057594037927936 by omega)
    obtain ⟨m, hm⟩ := Int.eq_ofNat_of_zero_le (show 0 ≤ n by omega)
    have HV : Hid (gnum (fun i => G.mem.getD (a + i) 0) m m = (R.load q n).1) := by
      show _ = _
      rw [hl, hm, Int.toNat_natCast]
      refine gnum_ld R.byte _ _ m (fun i hi => ?_) (by omega)
      have ht := access_tags ha n0 i (by omega)
      have hb := hs.bytes _ ht.2.1 ht.2.2
      rw [haa, show ((a : Int) + (i : Int)).toNat = a + i by omega] at hb
      rw [haa]
      exact ⟨hb.symm, hs.mem (a + i) (by omega)⟩
    have HL2 : Hid ((R.load q n).2 = 0) := by show _ = _; rw [hl]
    have HE := hide2 he
    have hA := haa
    have q0 : 0 ≤ q := htm.1
    have hfit : a + m ≤ G.mem.length := by omega
    clear h hs he hl hn htm hin ha haa
    subst hm
    go_enter Try.func32, Try.ntmps32
    go_wp2_with fail
    refine (accessNumber_any p vc bb G R q m w HR.out HS.out.sim q1).mono ?_
    rw [HE.out]
    rintro e1 w1 ⟨rfl, hb1⟩
    go_wp2_with (go_at_call 70; refine (number_any p vc bb G a m w1 (HR.out.below hb1) hfit HS.out.sim.small HS.out.mem).mono ?_; rw [HV.out]; rintro e2 w2 ⟨rfl, rfl⟩)
    go_ret2
    exact ⟨by rw [HL2.out]; rfl, hb1⟩
  · have HF := hide2 (load_err he)
    have heb : (R.storeErr q n != 0) = true := by simp [he]
    clear h hs he
    go_enter Try.func32, Try.ntmps32
    go_wp2_with (go_at_call 69; refine (accessNumber_any p vc bb G R q n w HR.out HS.out.sim q1).mono ?_; rintro e1 w1 ⟨rfl, hb1⟩)
    go_ret2
    exact ⟨by rw [HF.out]; rfl, hb1⟩

/-- what Store makes of the program's memory -/
def GSt.store (G : GSt) (R : RSt) (q n v : Int) : GSt := if R.storeErr q n = 0 then ⟨G.st, G.rest, G.cs, setTo G.mem (q % 72057594037927936).toNat v n.toNat⟩ else G
theorem SimB.store_any {G : GSt} {R : RSt} (h : SimB G R) (q n v : Int) : SimB (G.store R q n v) (R.store q n v) := by
  unfold GSt.store RSt.store
  by_cases he : R.storeErr q n = 0
  · rw [if_pos he, if_pos he]
    obtain ⟨_, hn, ha⟩ := load_ok he
    have n0 : 0 < n := by omega
    have hin := h.sim.access_in ha n0
    have e := h.store (q % 72057594037927936).toNat n.toNat v (by omega) (by omega)
    rw [show (((q % 72057594037927936).toNat : Nat) : Int) = q % 72057594037927936 by omega] at e
    exact e
  · rw [if_neg he, if_neg he]; exact h
theorem mem_foot (G : GSt) (mem : List Int) (p : Nat) (vc : Value) (bb b : Nat) : GFoot p vc bb ⟨G.st, G.rest, G.cs, mem⟩ b ↔ GFoot p vc bb G b := Iff.rfl
theorem GSt.store_foot (G : GSt) (R : RSt) (q n v : Int) (p : Nat) (vc : Value) (bb b : Nat) : GFoot p vc bb (G.store R q n v) b ↔ GFoot p vc bb G b := by
  unfold GSt.store; split <;> exact Iff.rfl

set_option maxRecDepth 100000 in
set_option maxHeartbeats 1600000 in
theorem gstore_any (p : Nat) (vc : Value) (bb : Nat) (G : GSt) (R : RSt) (q n v : Int) (w : World) (h : GRep w p vc bb G) (hs : SimB G R) (q1 : q ≤ 9223372036854775807) (v0 : -9223372036854775808 ≤ v) (v1 : v ≤ 9223372036854775807) :
    Calls Try.prog 84 #[.pointer (some ⟨p, 0, none⟩), .int .i64 q, .int .i64 n, .int .i64 v] w fun e w' => e = .returned (.int .i64 (R.storeErr q n)) ∧ GRep w' p vc bb (G.store R q n v) ∧ Kept w w' (GFoot p vc bb G) := by
  have HR := hide2 h
  have HS := hide2 hs
  by_cases he : R.storeErr q n = 0
  · obtain ⟨_, hn, ha⟩ := load_ok he
    have n0 : 0 < n := by omega
    have htm := (tame_iff q).1 (access_ok ha n0).1
    have hin := hs.sim.access_in ha n0
    obtain ⟨a, haa⟩ := Int.eq_ofNat_of_zero_le (show 0 ≤ q % 72057594037927936 by omega)
    obtain ⟨m, hm⟩ := Int.eq_ofNat_of_zero_le (show 0 ≤ n by omega)
    have HF : Hid (G.store R q n v = ⟨G.st, G.rest, G.cs, setTo G.mem a v m⟩) := by
      show _ = _
      unfold GSt.store
      rw [if_pos he, haa, hm, Int.toNat_natCast, Int.toNat_natCast]
    have HE := hide2 he
    have hA := haa
    have q0 : 0 ≤ q := htm.1
    have hfit : a + m ≤ G.mem.length := by omega
    clear h hs he hn htm hin ha haa
    subst hm
    go_enter Try.func84, Try.ntmps84
    go_wp2_with fail
    refine (accessNumber_any p vc bb G R q m w HR.out HS.out.sim q1).mono ?_
    rw [HE.out]
    rintro e1 w1 ⟨rfl, hb1⟩
    go_wp2_with (go_at_call 114; refine (setNumber_any p vc bb G a m v w1 (HR.out.below hb1) hfit HS.out.sim.small v0 v1).mono ?_; rintro e2 w2 ⟨rfl, hG2, hk2⟩)
    go_ret
    refine ⟨by rw [HE.out]; rfl, by rw [HF.out]; exact hG2, (Kept.of_below hb1 _).trans (hk2.mono fun b _ hb => .inr (.inr (.inl hb)))⟩
  · have HF : Hid (G.store R q n v = G) := if_neg he
    have heb : (R.storeErr q n != 0) = true := by simp [he]
    clear h hs he
    go_enter Try.func84, Try.ntmps84
    go_wp2_with (go_at_call 69; refine (accessNumber_any p vc bb G R q n w HR.out HS.out.sim q1).mono ?_; rintro e1 w1 ⟨rfl, hb1⟩)
    go_ret
    exact ⟨rfl, by rw [HF.out]; exact HR.out.below hb1, Kept.of_below hb1 _⟩

/-- what Move makes of the program's memory -/
def GSt.move (G : GSt) (R : RSt) (to from_ n : Int) : GSt := if R.moveErr to from_ n = 0 ∧ 0 < n then ⟨G.st, G.rest, G.cs, copyTo G.mem (to % 72057594037927936).toNat (from_ % 72057594037927936).toNat n.toNat⟩ else G
theorem move_ok {R : RSt} {to from_ n : Int} (h : R.moveErr to from_ n = 0) : (R.access from_ n).1 = 0 ∧ (R.access to n).1 = 0 := by
  unfold RSt.moveErr at h
  by_cases e : (R.access from_ n).1 = 0
  · rw [if_neg (by simp [e])] at h; exact ⟨e, h⟩
  · rw [if_pos e] at h; exact absurd h e
theorem access_len {R : RSt} {q n : Int} (h : (R.access q n).1 = 0) : 0 ≤ n := by
  unfold RSt.access at h
  by_cases ha : n < 0 ∨ 65536 < n
  · rw [if_pos ha] at h; simp at h
  · omega
theorem SimB.move_any {G : GSt} {R : RSt} (h : SimB G R) (to from_ n : Int) : SimB (G.move R to from_ n) (R.move to from_ n) := by
  unfold GSt.move RSt.move
  by_cases he : R.moveErr to from_ n = 0
  · obtain ⟨hf, ht⟩ := move_ok he
    have n0 := access_len hf
    by_cases hn : 0 < n
    · rw [if_pos ⟨he, hn⟩, if_pos he]
      have hi1 := h.sim.access_in hf hn
      have hi2 := h.sim.access_in ht hn
      have e := h.move (to % 72057594037927936).toNat (from_ % 72057594037927936).toNat n.toNat (by omega) (by omega) (fun j hj => by
        rw [show (((from_ % 72057594037927936).toNat : Nat) : Int) = from_ % 72057594037927936 by omega]
        exact (access_tags hf hn j (by omega)).2)
      rw [show (((to % 72057594037927936).toNat : Nat) : Int) = to % 72057594037927936 by omega, show (((from_ % 72057594037927936).toNat : Nat) : Int) = from_ % 72057594037927936 by omega] at e
      exact e
    · rw [if_neg (fun x => hn x.2), if_pos he, show n.toNat = 0 by omega]; exact h
  · rw [if_neg (fun x => he x.1), if_neg he]; exact h
theorem GSt.move_foot (G : GSt) (R : RSt) (to from_ n : Int) (p : Nat) (vc : Value) (bb b : Nat) : GFoot p vc bb (G.move R to from_ n) b ↔ GFoot p vc bb G b := by
  unfold GSt.move; split <;> exact Iff.rfl

set_option maxRecDepth 100000 in
set_option maxHeartbeats 1600000 in
theorem gmove_any (p : Nat) (vc : Value) (bb : Nat) (G : GSt) (R : RSt) (to from_ n : Int) (w : World) (h : GRep w p vc bb G) (hs : SimB G R) (t1 : to ≤ 9223372036854775807) (f1 : from_ ≤ 9223372036854775807) :
    Calls Try.prog 86 #[.pointer (some ⟨p, 0, none⟩), .int .i64 to, .int .i64 from_, .int .i64 n] w fun e w' => e = .returned (.int .i64 (R.moveErr to from_ n)) ∧ GRep w' p vc bb (G.move R to from_ n) ∧ Kept w w' (GFoot p vc bb G) := by
  have HR := hide2 h
  have HS := hide2 hs
  by_cases hf : (R.access from_ n).1 = 0
  · have HA := hide2 hf
    by_cases ht : (R.access to n).1 = 0
    · have HB := hide2 ht
      have HE : Hid (R.moveErr to from_ n = 0) := (if_neg (by simp [hf])).trans ht
      have n0 := access_len hf
      by_cases hn : 0 < n
      · have hi1 := hs.sim.access_in hf hn
        have hi2 := hs.sim.access_in ht hn
        have htf := (tame_iff from_).1 (access_ok hf hn).1
        have htt := (tame_iff to).1 (access_ok ht hn).1
        obtain ⟨a, haa⟩ := Int.eq_ofNat_of_zero_le (show 0 ≤ to % 72057594037927936 by omega)
        obtain ⟨b, hbb⟩ := Int.eq_ofNat_of_zero_le (show 0 ≤ from_ % 72057594037927936 by omega)
        obtain ⟨m, hm⟩ := Int.eq_ofNat_of_zero_le n0
        have HF : Hid (G.move R to from_ n = ⟨G.st, G.rest, G.cs, copyTo G.mem a b m⟩) := by
          show _ = _
          unfold GSt.move
          rw [if_pos ⟨HE.out, hn⟩, haa, hbb, hm, Int.toNat_natCast, Int.toNat_natCast, Int.toNat_natCast]
        have hA := haa
        have hB := hbb
        have f0 : 0 ≤ from_ := htf.1
        have t0 : 0 ≤ to := htt.1
        have fit1 : a + m ≤ G.mem.length := by omega
        have fit2 : b + m ≤ G.mem.length := by omega
        clear h hs hf ht hi1 hi2 htf htt haa hbb
        subst hm
        go_enter Try.func86, Try.ntmps86
        go_wp2_with fail
        refine (gaccess_any p vc bb G R from_ m w HR.out HS.out.sim f1).mono ?_
        rw [HA.out]
        rintro e1 w1 ⟨rfl, hb1⟩
        go_wp2_with fail
        refine (gaccess_any p vc bb G R to m w1 (HR.out.below hb1) HS.out.sim t1).mono ?_
        rw [HB.out]
        rintro e1 w2 ⟨rfl, hb2'⟩
        have hb2 : Below w.heap.size w w2 := hb1.trans (hb2'.mono hb1.size)
        go_wp2_with (go_at_call 116; refine (copyBytes_any p vc bb G a b m w2 (HR.out.below hb2) fit1 fit2 (by omega) (by omega) HS.out.sim.small).mono ?_; rintro e2 w3 ⟨rfl, hG3, hk3⟩)
        go_ret
        exact ⟨by rw [HE.out]; rfl, by rw [HF.out]; exact hG3, (Kept.of_below hb2 _).trans (hk3.mono fun b _ hb => .inr (.inr (.inl hb)))⟩
      · have HF : Hid (G.move R to from_ n = G) := if_neg (fun x => hn x.2)
        obtain rfl : n = 0 := by omega
        clear h hs hf ht hn
        go_enter Try.func86, Try.ntmps86
        go_wp2_with fail
        refine (gaccess_any p vc bb G R from_ 0 w HR.out HS.out.sim f1).mono ?_
        rw [HA.out]
        rintro e1 w1 ⟨rfl, hb1⟩
        go_wp2_with fail
        refine (gaccess_any p vc bb G R to 0 w1 (HR.out.below hb1) HS.out.sim t1).mono ?_
        rw [HB.out]
        rintro e1 w2 ⟨rfl, hb2'⟩
        have hb2 : Below w.heap.size w w2 := hb1.trans (hb2'.mono hb1.size)
        go_wp2
        go_ret
        exact ⟨by rw [HE.out]; rfl, by rw [HF.out]; exact HR.out.below hb2, Kept.of_below hb2 _⟩
    · have HE : Hid (R.moveErr to from_ n = (R.access to n).1) := if_neg (by simp [hf])
      have HF : Hid (G.move R to from_ n = G) := if_neg (fun x => ht (by rw [← HE.out]; exact x.1))
      have hab : ((R.access to n).1 != 0) = true := by simp [ht]
      clear h hs hf ht
      go_enter Try.func86, Try.ntmps86
      go_wp2_with fail
      refine (gaccess_any p vc bb G R from_ n w HR.out HS.out.sim f1).mono ?_
      rw [HA.out]
      rintro e1 w1 ⟨rfl, hb1⟩
      go_wp2_with fail
      refine (gaccess_any p vc bb G R to n w1 (HR.out.below hb1) HS.out.sim t1).mono ?_
      rintro e1 w2 ⟨rfl, hb2'⟩
      have hb2 : Below w.heap.size w w2 := hb1.trans (hb2'.mono hb1.size)
      go_wp2
      go_ret
      exact ⟨by rw [HE.out]; rfl, by rw [HF.out]; exact HR.out.below hb2, Kept.of_below hb2 _⟩
  · have HE : Hid (R.moveErr to from_ n = (R.access from_ n).1) := if_pos hf
    have HF : Hid (G.move R to from_ n = G) := if_neg (fun x => hf (by rw [← HE.out]; exact x.1))
    have hab : ((R.access from_ n).1 != 0) = true := by simp [hf]
    clear h hs hf
    go_enter Try.func86, Try.ntmps86
    go_wp2_with (go_at_call 98; refine (gaccess_any p vc bb G R from_ n w HR.out HS.out.sim f1).mono ?_; rintro e1 w1 ⟨rfl, hb1⟩)
    go_ret
    exact ⟨by rw [HE.out]; rfl, by rw [HF.out]; exact HR.out.below hb1, Kept.of_below hb1 _⟩
end Go.Proofs.Ytjikemhmnkckcaa
