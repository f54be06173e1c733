import Derived.Test.YtjikemhmnkckcaaJ29
/- Which block a pointer has, behind events. Plain mathematics. -/
namespace Go.Proofs.Ytjikemhmnkckcaa
open Go.RowKit

theorem state_of (log : List Ref.Ev) (k s : Int) : Ref.state log k s = 2 ∧ Ref.given log k s < 0 ∨ Ref.state log k s = 3 ∧ 0 ≤ Ref.given log k s ∧ Ref.gone log k s < 0 ∨ Ref.state log k s = 4 ∧ 0 ≤ Ref.given log k s ∧ 0 ≤ Ref.gone log k s := by
  unfold Ref.state
  by_cases h1 : Ref.given log k s < 0
  · rw [if_pos h1]; exact .inl ⟨rfl, h1⟩
  · rw [if_neg h1]
    by_cases h2 : Ref.gone log k s < 0
    · rw [if_pos h2]; exact .inr (.inl ⟨rfl, by omega, h2⟩)
    · rw [if_neg h2]; exact .inr (.inr ⟨rfl, by omega, by omega⟩)

theorem match_uniq {st rest : Int} {cls : List (Int × Int)} (hv : Cf.Valid st rest cls) (log : List Ref.Ev) (a t : Int) (k s k' s' : Nat) (hk : k < cls.length) (hs : s < (Cf.sl cls k).toNat) (hk' : k' < cls.length) (hs' : s' < (Cf.sl cls k').toNat)
    (hm : Ref.matchB st cls log a t k s = true) (hm' : Ref.matchB st cls log a t k' s' = true) : k' = k ∧ s' = s := by
  have key : ∀ k s, k < cls.length → s < (Cf.sl cls k).toNat → Ref.matchB st cls log a t k s = true → Cf.slot st cls a = ((k : Int), (s : Int)) := fun k s hk hs hm => by
    have hbe := ((match_iff _ _ _ _ _ _ _).1 hm).1
    have hi := Cf.inS_begin hv k s hk
    rw [hbe] at hi
    exact Cf.slot_found hv _ k s hk hs hi
  have e1 := key k s hk hs hm
  rw [key k' s' hk' hs' hm'] at e1
  have e2 := congrArg Prod.fst e1
  have e3 := congrArg Prod.snd e1
  simp at e2 e3
  omega

theorem block_iff {st rest : Int} {cls : List (Int × Int)} (hv : Cf.Valid st rest cls) (log : List Ref.Ev) (q : Int) (k s : Nat) :
    Ref.block st cls log q = ((k : Int), (s : Int), 0) ↔ k < cls.length ∧ s < (Cf.sl cls k).toNat ∧ Ref.tameB q = true ∧ Cf.begin_ st cls k s = q % 72057594037927936 ∧ Ref.last log k s = q / 72057594037927936 ∧ Ref.state log k s = 3 := by
  unfold Ref.block
  cases ht : Ref.tameB q
  · simp
  · rw [if_pos rfl]
    change Ref.blockFrom st cls log (q % 72057594037927936) (q / 72057594037927936) cls.length 0 = _ ↔ _
    by_cases hx : ∃ k0 s0, k0 < cls.length ∧ s0 < (Cf.sl cls k0).toNat ∧ Ref.matchB st cls log (q % 72057594037927936) (q / 72057594037927936) k0 s0 = true
    · obtain ⟨k0, s0, hk0, hs0, hm0⟩ := hx
      have hm := (match_iff _ _ _ _ _ _ _).1 hm0
      rw [blockFrom_one _ _ _ _ _ k0 s0 _ _ (by omega) (by omega) hs0 hm0 (fun k' s' h1 h2 h3 => match_uniq hv log _ _ k0 s0 k' s' hk0 hs0 (by omega) h2 hm0 h3)]
      constructor
      · intro h
        by_cases h4 : Ref.state log k0 s0 = 4
        · rw [if_pos h4] at h; simp at h
        · rw [if_neg h4] at h
          have e1 := congrArg Prod.fst h
          have e2 := congrArg (fun x => x.2.1) h
          simp at e1 e2
          obtain rfl : k0 = k := by omega
          obtain rfl : s0 = s := by omega
          refine ⟨hk0, hs0, rfl, hm.1, hm.2.1, ?_⟩
          rcases state_of log k0 s0 with h | h | h <;> omega
      · rintro ⟨h1, h2, _, h4, h5, h6⟩
        have := match_uniq hv log _ _ k0 s0 k s hk0 hs0 h1 h2 hm0 ((match_iff _ _ _ _ _ _ _).2 ⟨h4, h5, by omega⟩)
        obtain ⟨rfl, rfl⟩ := this
        rw [if_neg (by omega)]
    · rw [blockFrom_none _ _ _ _ _ _ _ (fun k' s' _ h2 h3 => by
        cases e : Ref.matchB st cls log (q % 72057594037927936) (q / 72057594037927936) k' s'
        · rfl
        · exact absurd ⟨k', s', by omega, h3, e⟩ hx)]
      constructor
      · intro h; simp at h
      · rintro ⟨h1, h2, _, h4, h5, h6⟩
        exact absurd ⟨k, s, h1, h2, (match_iff _ _ _ _ _ _ _).2 ⟨h4, h5, by omega⟩⟩ hx

/-- an event that does not speak of the slot -/
theorem given_other (log : List Ref.Ev) (e : Ref.Ev) (k s : Int) (hg : e.gives k s = false) : Ref.given (log ++ [e]) k s = Ref.given log k s := by
  rw [Ref.given_snoc, if_neg (by rw [hg]; decide)]
theorem last_other (log : List Ref.Ev) (e : Ref.Ev) (k s : Int) (hg : e.gives k s = false) : Ref.last (log ++ [e]) k s = Ref.last log k s := by
  unfold Ref.last
  have h1 := Ref.given_hi log k s
  rw [given_other log e k s hg]
  by_cases h : Ref.given log k s < 0
  · rw [if_pos h, if_pos h]
  · rw [if_neg h, if_neg h, Ref.getD_old _ _ _ (by omega)]
theorem size_other (log : List Ref.Ev) (e : Ref.Ev) (k s : Int) (hg : e.gives k s = false) (h0 : 0 ≤ Ref.given log k s) : (log ++ [e]).getD (Ref.given (log ++ [e]) k s).toNat Ref.Ev.no = log.getD (Ref.given log k s).toNat Ref.Ev.no := by
  have h1 := Ref.given_hi log k s
  rw [given_other log e k s hg, Ref.getD_old _ _ _ (by omega)]
theorem state_other (log : List Ref.Ev) (e : Ref.Ev) (k s : Int) (hg : e.gives k s = false) (ht : e.takes k s = false) : Ref.state (log ++ [e]) k s = Ref.state log k s := by
  unfold Ref.state
  rw [given_other log e k s hg, Ref.gone_snoc log e k s hg]
  have := Ref.gone_lo log k s
  by_cases h : 0 ≤ Ref.gone log k s
  · rw [if_pos h]
  · rw [if_neg h, ht, show Ref.gone log k s = -1 by omega]; rfl
theorem state_gives (log : List Ref.Ev) (e : Ref.Ev) (k s : Int) (hg : e.gives k s = true) : Ref.state (log ++ [e]) k s = 3 := by
  unfold Ref.state
  rw [Ref.given_snoc, if_pos hg, Ref.gone_gives log e k s hg, if_neg (by omega), if_pos (by omega)]
theorem state_takes (log : List Ref.Ev) (e : Ref.Ev) (k s : Int) (hg : e.gives k s = false) (ht : e.takes k s = true) (h3 : Ref.state log k s = 3) : Ref.state (log ++ [e]) k s = 4 := by
  rcases state_of log k s with h | h | h
  · omega
  · unfold Ref.state
    have hn : ¬ (0 ≤ Ref.gone log k s) := by omega
    have hg2 : ¬ (Ref.given log k s < 0) := by omega
    rw [given_other log e k s hg, Ref.gone_snoc log e k s hg, if_neg hg2, if_neg hn, if_pos ht, if_neg (by omega)]
  · omega
theorem last_gives (log : List Ref.Ev) (e : Ref.Ev) (k s : Int) (hg : e.gives k s = true) : Ref.last (log ++ [e]) k s = e.tag := by
  unfold Ref.last
  rw [Ref.given_snoc, if_pos hg, if_neg (by omega), Int.toNat_natCast, Ref.getD_new]
theorem size_gives (log : List Ref.Ev) (e : Ref.Ev) (k s : Int) (hg : e.gives k s = true) : (log ++ [e]).getD (Ref.given (log ++ [e]) k s).toNat Ref.Ev.no = e := by
  rw [Ref.given_snoc, if_pos hg, Int.toNat_natCast, Ref.getD_new]

/-- the tag where the event does not speak of the slot -/
theorem tag_other (st : Int) (cls : List (Int × Int)) (log : List Ref.Ev) (e : Ref.Ev) (addr : Int) (hg : 0 ≤ (Cf.slot st cls addr).1 → e.gives (Cf.slot st cls addr).1 (Cf.slot st cls addr).2 = false ∧ e.takes (Cf.slot st cls addr).1 (Cf.slot st cls addr).2 = false) :
    Cf.tag st cls (log ++ [e]) addr = Cf.tag st cls log addr := by
  unfold Cf.tag
  by_cases h1 : 16 ≤ addr ∧ addr < 16 * (1 + st)
  · rw [if_pos h1, if_pos h1]
  · rw [if_neg h1, if_neg h1]
    by_cases h2 : (Cf.slot st cls addr).1 < 0
    · rw [if_pos h2, if_pos h2]
    · rw [if_neg h2, if_neg h2]
      obtain ⟨a, b⟩ := hg (by omega)
      rw [state_other _ _ _ _ a b]
      by_cases h3 : Ref.state log (Cf.slot st cls addr).1 (Cf.slot st cls addr).2 = 3
      · have hn : ¬ (Ref.state log (Cf.slot st cls addr).1 (Cf.slot st cls addr).2 ≠ 3) := fun x => x h3
        rw [if_neg hn, if_neg hn]
        rcases state_of log (Cf.slot st cls addr).1 (Cf.slot st cls addr).2 with h | h | h
        · omega
        · rw [size_other _ _ _ _ a h.2.1]
        · omega
      · rw [if_pos h3, if_pos h3]
/-- in static memory there is no slot -/
theorem static_slot {st rest : Int} {cls : List (Int × Int)} (hv : Cf.Valid st rest cls) (addr : Int) (h : addr < 16 * (1 + st)) : Cf.slot st cls addr = (-1, -1) := by
  rcases Cf.slot_bd st cls addr with hsl | ⟨k, s, hsl, hk, hs, hin⟩
  · exact hsl
  · exfalso
    simp only [Cf.inS, Bool.and_eq_true, decide_eq_true_eq] at hin
    have h1 := Cf.gran_mono hv 0 k (by omega) (by omega)
    have h2 : Cf.gran st cls 0 = 1 + st + 1 := rfl
    have h3 := hv.g0 k hk
    have h4 : 0 ≤ (s : Int) * Cf.gr cls k := Int.mul_nonneg (by omega) (by omega)
    have h5 := hin.1
    unfold Cf.begin_ at h5
    omega
/-- of an address within a slot's bytes -/
theorem slot_at {st rest : Int} {cls : List (Int × Int)} (hv : Cf.Valid st rest cls) (k s : Nat) (hk : k < cls.length) (hs : s < (Cf.sl cls k).toNat) (addr : Int) (h0 : Cf.begin_ st cls k s ≤ addr) (h1 : addr < Cf.begin_ st cls k s + 16 * Cf.gr cls k) : Cf.slot st cls addr = ((k : Int), (s : Int)) :=
  Cf.slot_found hv addr k s hk hs (by simp only [Cf.inS, Bool.and_eq_true, decide_eq_true_eq]; exact ⟨h0, h1⟩)
/-- the tag in a live block -/
theorem tag_live {R : RSt} (hv : Cf.Valid R.st R.rest R.cls) (k s : Nat) (hk : k < R.cls.length) (hs : s < (Cf.sl R.cls k).toNat) (h3 : Ref.state R.log k s = 3) (addr : Int) (h0 : Cf.begin_ R.st R.cls k s ≤ addr)
    (h1 : addr < Cf.begin_ R.st R.cls k s + 16 * (R.log.getD (Ref.given R.log k s).toNat Ref.Ev.no).size) (hz : (R.log.getD (Ref.given R.log k s).toNat Ref.Ev.no).size ≤ Cf.gr R.cls k) : R.tag addr = Ref.last R.log k s := by
  have hsl := slot_at hv k s hk hs addr h0 (by omega)
  have hb : ¬ (16 ≤ addr ∧ addr < 16 * (1 + R.st)) := fun x => by
    rw [static_slot hv addr x.2] at hsl
    have := congrArg Prod.fst hsl
    simp at this
  unfold RSt.tag Cf.tag
  rw [if_neg hb, hsl]
  simp only [Int.toNat_natCast]
  rw [if_neg (by omega), if_neg (by simp [h3]), if_neg (by omega)]
  unfold Ref.last
  rcases state_of R.log k s with h | h | h
  · omega
  · rw [if_neg (by omega)]
  · omega
/-- .. behind it, and in a slot that is not live -/
theorem tag_rest {R : RSt} (hv : Cf.Valid R.st R.rest R.cls) (k s : Nat) (hk : k < R.cls.length) (hs : s < (Cf.sl R.cls k).toNat) (addr : Int) (h0 : Cf.begin_ R.st R.cls k s ≤ addr) (h1 : addr < Cf.begin_ R.st R.cls k s + 16 * Cf.gr R.cls k)
    (h : Ref.state R.log k s ≠ 3 ∨ Cf.begin_ R.st R.cls k s + 16 * (R.log.getD (Ref.given R.log k s).toNat Ref.Ev.no).size ≤ addr) : R.tag addr = 15 := by
  have hsl := slot_at hv k s hk hs addr h0 h1
  have hb : ¬ (16 ≤ addr ∧ addr < 16 * (1 + R.st)) := fun x => by
    rw [static_slot hv addr x.2] at hsl
    have := congrArg Prod.fst hsl
    simp at this
  unfold RSt.tag Cf.tag
  rw [if_neg hb, hsl]
  simp only [Int.toNat_natCast]
  rw [if_neg (by omega)]
  by_cases h3 : Ref.state R.log k s = 3
  · rw [if_neg (by simp [h3]), if_pos (by rcases h with h | h; exact absurd h3 h; exact h)]
  · rw [if_pos h3]

/-- the event that gave the slot out -/
theorem givenTo_at (log : List Ref.Ev) (k s : Int) (m : Nat) (h : 0 ≤ Ref.givenTo log k s m) : (log.getD (Ref.givenTo log k s m).toNat Ref.Ev.no).gives k s = true := by
  induction m with
  | zero => simp [Ref.givenTo] at h
  | succ m ih =>
    simp only [Ref.givenTo] at h ⊢
    split
    · rename_i hg; rw [Int.toNat_natCast]; exact hg
    · rename_i hg; rw [if_neg hg] at h; exact ih h
theorem given_at (log : List Ref.Ev) (k s : Int) (h : 0 ≤ Ref.given log k s) : (log.getD (Ref.given log k s).toNat Ref.Ev.no).back = false ∧ (log.getD (Ref.given log k s).toNat Ref.Ev.no).cls = k ∧ (log.getD (Ref.given log k s).toNat Ref.Ev.no).slot = s := by
  have := givenTo_at log k s log.length h
  simp only [Ref.Ev.gives, Bool.and_eq_true, Bool.not_eq_true', beq_iff_eq] at this
  exact ⟨this.1.1, this.1.2, this.2⟩
theorem Fits.size {R : RSt} (h : Fits R) (k s : Nat) (hg : 0 ≤ Ref.given R.log k s) : 1 ≤ (R.log.getD (Ref.given R.log k s).toNat Ref.Ev.no).size ∧ (R.log.getD (Ref.given R.log k s).toNat Ref.Ev.no).size ≤ Cf.gr R.cls k := by
  have g2 := Ref.given_hi R.log k s
  obtain ⟨h1, h2, _⟩ := given_at R.log k s hg
  have h3 := h (Ref.given R.log k s).toNat (by omega) h1
  rw [h2, Int.toNat_natCast] at h3
  exact ⟨h3.1, h3.2.1⟩
theorem Fits.tag {R : RSt} (h : Fits R) (k s : Nat) (hg : 0 ≤ Ref.given R.log k s) : 1 ≤ Ref.last R.log k s ∧ Ref.last R.log k s ≤ 14 := by
  have g2 := Ref.given_hi R.log k s
  obtain ⟨h1, _, _⟩ := given_at R.log k s hg
  have h3 := h (Ref.given R.log k s).toNat (by omega) h1
  unfold Ref.last
  rw [if_neg (by omega)]
  exact h3.2.2
theorem Fits.snoc {R : RSt} (h : Fits R) (e : Ref.Ev) (he : e.back = false → 1 ≤ e.size ∧ e.size ≤ Cf.gr R.cls e.cls.toNat ∧ 1 ≤ e.tag ∧ e.tag ≤ 14) : Fits ⟨R.st, R.rest, R.cls, R.log ++ [e], R.marks⟩ := by
  intro i hi hb
  change i < (R.log ++ [e]).length at hi
  change ((R.log ++ [e]).getD i Ref.Ev.no).back = false at hb
  show 1 ≤ ((R.log ++ [e]).getD i Ref.Ev.no).size ∧ ((R.log ++ [e]).getD i Ref.Ev.no).size ≤ Cf.gr R.cls ((R.log ++ [e]).getD i Ref.Ev.no).cls.toNat ∧ 1 ≤ ((R.log ++ [e]).getD i Ref.Ev.no).tag ∧ ((R.log ++ [e]).getD i Ref.Ev.no).tag ≤ 14
  by_cases hlt : i < R.log.length
  · rw [Ref.getD_old R.log e i hlt] at hb ⊢
    exact h i hlt hb
  · have : i = R.log.length := by simp at hi; omega
    subst this
    rw [Ref.getD_new] at hb ⊢
    exact he hb
end Go.Proofs.Ytjikemhmnkckcaa
/- The program's Load, Store, Move, Usable. -/
namespace Go.Proofs.Ytjikemhmnkckcaa
open Go.RowKit

theorem load_err {R : RSt} {q n : Int} (h : R.storeErr q n ≠ 0) : R.load q n = (0, R.storeErr q n) := by
  unfold RSt.storeErr RSt.load at *
  cases hs : Ref.shapeB n
  · simp
  · rw [hs] at h
    simp only [Bool.true_eq_false, if_false] at h ⊢
    rw [if_pos h]
theorem load_ok {R : RSt} {q n : Int} (h : R.storeErr q n = 0) : R.load q n = (Ref.ldV R.byte (q % 72057594037927936) n.toNat, 0) ∧ (n = 1 ∨ n = 2 ∨ n = 4 ∨ n = 8) ∧ (R.access q n).1 = 0 := by
  unfold RSt.storeErr RSt.load at *
  cases hs : Ref.shapeB n
  · rw [hs] at h; simp at h
  · rw [hs] at h
    simp only [Bool.true_eq_false, if_false] at h ⊢
    exact ⟨by rw [if_neg (by simp [h])], shape_of hs, h⟩

set_option maxRecDepth 100000 in
set_option maxHeartbeats 1600000 in
theorem gload_any (p : Nat) (vc : Value) (bb : Nat) (G : GSt) (R : RSt) (q n : Int) (w : World) (h : GRep w p vc bb G) (hs : SimB G R) (q1 : q ≤ 9223372036854775807) :
    Calls Try.prog 32 #[.pointer (some ⟨p, 0, none⟩), .int .i64 q, .int .i64 n] w fun e w' => e = .returned (.tuple #[.int .i64 (R.load q n).1, .int .i64 (R.load q n).2]) ∧ Below w.heap.size w w' := by
  have HR := hide2 h
  have HS := hide2 hs
  by_cases he : R.storeErr q n = 0
  · obtain ⟨hl, hn, ha⟩ := load_ok he
    have n0 : 0 < n := by omega
    have htm := (tame_iff q).1 (access_ok ha n0).1
    have hin := hs.sim.access_in ha n0
    obtain ⟨a, haa⟩ := Int.eq_ofNat_of_zero_le (show 0 ≤ q % 72057594037927936 by omega)
    obtain ⟨m, hm⟩ := Int.eq_ofNat_of_zero_le (show 0 ≤ n by omega)
    have HV : Hid (gnum (fun i => G.mem.getD (a + i) 0) m m = (R.load q n).1) := by
      show _ = _
      rw [hl, hm, Int.toNat_natCast]
      refine gnum_ld R.byte _ _ m (fun i hi => ?_) (by omega)
      have ht := access_tags ha n0 i (by omega)
      have hb := hs.bytes _ ht.2.1 ht.2.2
      rw [haa, show ((a : Int) + (i : Int)).toNat = a + i by omega] at hb
      rw [haa]
      exact ⟨hb.symm, hs.mem (a + i) (by omega)⟩
    have HL2 : Hid ((R.load q n).2 = 0) := by show _ = _; rw [hl]
    have HE := hide2 he
    have hA := haa
    have q0 : 0 ≤ q := htm.1
    have hfit : a + m ≤ G.mem.length := by omega
    clear h hs he hl hn htm hin ha haa
    subst hm
    go_enter Try.func32, Try.ntmps32
    go_wp2_with fail
    refine (accessNumber_any p vc bb G R q m w HR.out HS.out.sim q1).mono ?_
    rw [HE.out]
    rintro e1 w1 ⟨rfl, hb1⟩
    go_wp2_with (go_at_call 70; refine (number_any p vc bb G a m w1 (HR.out.below hb1) hfit HS.out.sim.small HS.out.mem).mono ?_; rw [HV.out]; rintro e2 w2 ⟨rfl, rfl⟩)
    go_ret2
    exact ⟨by rw [HL2.out]; rfl, hb1⟩
  · have HF := hide2 (load_err he)
    have heb : (R.storeErr q n != 0) = true := by simp [he]
    clear h hs he
    go_enter Try.func32, Try.ntmps32
    go_wp2_with (go_at_call 69; refine (accessNumber_any p vc bb G R q n w HR.out HS.out.sim q1).mono ?_; rintro e1 w1 ⟨rfl, hb1⟩)
    go_ret2
    exact ⟨by rw [HF.out]; rfl, hb1⟩

/-- what Store makes of the program's memory -/
def GSt.store (G : GSt) (R : RSt) (q n v : Int) : GSt := if R.storeErr q n = 0 then ⟨G.st, G.rest, G.cs, setTo G.mem (q % 72057594037927936).toNat v n.toNat⟩ else G
theorem SimB.store_any {G : GSt} {R : RSt} (h : SimB G R) (q n v : Int) : SimB (G.store R q n v) (R.store q n v) := by
  unfold GSt.store RSt.store
  by_cases he : R.storeErr q n = 0
  · rw [if_pos he, if_pos he]
    obtain ⟨_, hn, ha⟩ := load_ok he
    have n0 : 0 < n := by omega
    have hin := h.sim.access_in ha n0
    have e := h.store (q % 72057594037927936).toNat n.toNat v (by omega) (by omega)
    rw [show (((q % 72057594037927936).toNat : Nat) : Int) = q % 72057594037927936 by omega] at e
    exact e
  · rw [if_neg he, if_neg he]; exact h
theorem mem_foot (G : GSt) (mem : List Int) (p : Nat) (vc : Value) (bb b : Nat) : GFoot p vc bb ⟨G.st, G.rest, G.cs, mem⟩ b ↔ GFoot p vc bb G b := Iff.rfl
theorem GSt.store_foot (G : GSt) (R : RSt) (q n v : Int) (p : Nat) (vc : Value) (bb b : Nat) : GFoot p vc bb (G.store R q n v) b ↔ GFoot p vc bb G b := by
  unfold GSt.store; split <;> exact Iff.rfl

set_option maxRecDepth 100000 in
set_option maxHeartbeats 1600000 in
theorem gstore_any (p : Nat) (vc : Value) (bb : Nat) (G : GSt) (R : RSt) (q n v : Int) (w : World) (h : GRep w p vc bb G) (hs : SimB G R) (q1 : q ≤ 9223372036854775807) (v0 : -9223372036854775808 ≤ v) (v1 : v ≤ 9223372036854775807) :
    Calls Try.prog 84 #[.pointer (some ⟨p, 0, none⟩), .int .i64 q, .int .i64 n, .int .i64 v] w fun e w' => e = .returned (.int .i64 (R.storeErr q n)) ∧ GRep w' p vc bb (G.store R q n v) ∧ Kept w w' (GFoot p vc bb G) := by
  have HR := hide2 h
  have HS := hide2 hs
  by_cases he : R.storeErr q n = 0
  · obtain ⟨_, hn, ha⟩ := load_ok he
    have n0 : 0 < n := by omega
    have htm := (tame_iff q).1 (access_ok ha n0).1
    have hin := hs.sim.access_in ha n0
    obtain ⟨a, haa⟩ := Int.eq_ofNat_of_zero_le (show 0 ≤ q % 72057594037927936 by omega)
    obtain ⟨m, hm⟩ := Int.eq_ofNat_of_zero_le (show 0 ≤ n by omega)
    have HF : Hid (G.store R q n v = ⟨G.st, G.rest, G.cs, setTo G.mem a v m⟩) := by
      show _ = _
      unfold GSt.store
      rw [if_pos he, haa, hm, Int.toNat_natCast, Int.toNat_natCast]
    have HE := hide2 he
    have hA := haa
    have q0 : 0 ≤ q := htm.1
    have hfit : a + m ≤ G.mem.length := by omega
    clear h hs he hn htm hin ha haa
    subst hm
    go_enter Try.func84, Try.ntmps84
    go_wp2_with fail
    refine (accessNumber_any p vc bb G R q m w HR.out HS.out.sim q1).mono ?_
    rw [HE.out]
    rintro e1 w1 ⟨rfl, hb1⟩
    go_wp2_with (go_at_call 114; refine (setNumber_any p vc bb G a m v w1 (HR.out.below hb1) hfit HS.out.sim.small v0 v1).mono ?_; rintro e2 w2 ⟨rfl, hG2, hk2⟩)
    go_ret
    refine ⟨by rw [HE.out]; rfl, by rw [HF.out]; exact hG2, (Kept.of_below hb1 _).trans (hk2.mono fun b _ hb => .inr (.inr (.inl hb)))⟩
  · have HF : Hid (G.store R q n v = G) := if_neg he
    have heb : (R.storeErr q n != 0) = true := by simp [he]
    clear h hs he
    go_enter Try.func84, Try.ntmps84
    go_wp2_with (go_at_call 69; refine (accessNumber_any p vc bb G R q n w HR.out HS.out.sim q1).mono ?_; rintro e1 w1 ⟨rfl, hb1⟩)
    go_ret
    exact ⟨rfl, by rw [HF.out]; exact HR.out.below hb1, Kept.of_below hb1 _⟩

/-- what Move makes of the program's memory -/
def GSt.move (G : GSt) (R : RSt) (to from_ n : Int) : GSt := if R.moveErr to from_ n = 0 ∧ 0 < n then ⟨G.st, G.rest, G.cs, copyTo G.mem (to % 72057594037927936).toNat (from_ % 72057594037927936).toNat n.toNat⟩ else G
theorem move_ok {R : RSt} {to from_ n : Int} (h : R.moveErr to from_ n = 0) : (R.access from_ n).1 = 0 ∧ (R.access to n).1 = 0 := by
  unfold RSt.moveErr at h
  by_cases e : (R.access from_ n).1 = 0
  · rw [if_neg (by simp [e])] at h; exact ⟨e, h⟩
  · rw [if_pos e] at h; exact absurd h e
theorem access_len {R : RSt} {q n : Int} (h : (R.access q n).1 = 0) : 0 ≤ n := by
  unfold RSt.access at h
  by_cases ha : n < 0 ∨ 65536 < n
  · rw [if_pos ha] at h; simp at h
  · omega
theorem SimB.move_any {G : GSt} {R : RSt} (h : SimB G R) (to from_ n : Int) : SimB (G.move R to from_ n) (R.move to from_ n) := by
  unfold GSt.move RSt.move
  by_cases he : R.moveErr to from_ n = 0
  · obtain ⟨hf, ht⟩ := move_ok he
    have n0 := access_len hf
    by_cases hn : 0 < n
    · rw [if_pos ⟨he, hn⟩, if_pos he]
      have hi1 := h.sim.access_in hf hn
      have hi2 := h.sim.access_in ht hn
      have e := h.move (to % 72057594037927936).toNat (from_ % 72057594037927936).toNat n.toNat (by omega) (by omega) (fun j hj => by
        rw [show (((from_ % 72057594037927936).toNat : Nat) : Int) = from_ % 72057594037927936 by omega]
        exact (access_tags hf hn j (by omega)).2)
      rw [show (((to % 72057594037927936).toNat : Nat) : Int) = to % 72057594037927936 by omega, show (((from_ % 72057594037927936).toNat : Nat) : Int) = from_ % 72057594037927936 by omega] at e
      exact e
    · rw [if_neg (fun x => hn x.2), if_pos he, show n.toNat = 0 by omega]; exact h
  · rw [if_neg (fun x => he x.1), if_neg he]; exact h
theorem GSt.move_foot (G : GSt) (R : RSt) (to from_ n : Int) (p : Nat) (vc : Value) (bb b : Nat) : GFoot p vc bb (G.move R to from_ n) b ↔ GFoot p vc bb G b := by
  unfold GSt.move; split <;> exact Iff.rfl

set_option maxRecDepth 100000 in
set_option maxHeartbeats 1600000 in
theorem gmove_any (p : Nat) (vc : Value) (bb : Nat) (G : GSt) (R : RSt) (to from_ n : Int) (w : World) (h : GRep w p vc bb G) (hs : SimB G R) (t1 : to ≤ 9223372036854775807) (f1 : from_ ≤ 9223372036854775807) :
    Calls Try.prog 86 #[.pointer (some ⟨p, 0, none⟩), .int .i64 to, .int .i64 from_, .int .i64 n] w fun e w' => e = .returned (.int .i64 (R.moveErr to from_ n)) ∧ GRep w' p vc bb (G.move R to from_ n) ∧ Kept w w' (GFoot p vc bb G) := by
  have HR := hide2 h
  have HS := hide2 hs
  by_cases hf : (R.access from_ n).1 = 0
  · have HA := hide2 hf
    by_cases ht : (R.access to n).1 = 0
    · have HB := hide2 ht
      have HE : Hid (R.moveErr to from_ n = 0) := (if_neg (by simp [hf])).trans ht
      have n0 := access_len hf
      by_cases hn : 0 < n
      · have hi1 := hs.sim.access_in hf hn
        have hi2 := hs.sim.access_in ht hn
        have htf := (tame_iff from_).1 (access_ok hf hn).1
        have htt := (tame_iff to).1 (access_ok ht hn).1
        obtain ⟨a, haa⟩ := Int.eq_ofNat_of_zero_le (show 0 ≤ to % 72057594037927936 by omega)
        obtain ⟨b, hbb⟩ := Int.eq_ofNat_of_zero_le (show 0 ≤ from_ % 72057594037927936 by omega)
        obtain ⟨m, hm⟩ := Int.eq_ofNat_of_zero_le n0
        have HF : Hid (G.move R to from_ n = ⟨G.st, G.rest, G.cs, copyTo G.mem a b m⟩) := by
          show _ = _
          unfold GSt.move
          rw [if_pos ⟨HE.out, hn⟩, haa, hbb, hm, Int.toNat_natCast, Int.toNat_natCast, Int.toNat_natCast]
        have hA := haa
        have hB := hbb
        have f0 : 0 ≤ from_ := htf.1
        have t0 : 0 ≤ to := htt.1
        have fit1 : a + m ≤ G.mem.length := by omega
        have fit2 : b + m ≤ G.mem.length := by omega
        clear h hs hf ht hi1 hi2 htf htt haa hbb
        subst hm
        go_enter Try.func86, Try.ntmps86
        go_wp2_with fail
        refine (gaccess_any p vc bb G R from_ m w HR.out HS.out.sim f1).mono ?_
        rw [HA.out]
        rintro e1 w1 ⟨rfl, hb1⟩
        go_wp2_with fail
        refine (gaccess_any p vc bb G R to m w1 (HR.out.below hb1) HS.out.sim t1).mono ?_
        rw [HB.out]
        rintro e1 w2 ⟨rfl, hb2'⟩
        have hb2 : Below w.heap.size w w2 := hb1.trans (hb2'.mono hb1.size)
        go_wp2_with (go_at_call 116; refine (copyBytes_any p vc bb G a b m w2 (HR.out.below hb2) fit1 fit2 (by omega) (by omega) HS.out.sim.small).mono ?_; rintro e2 w3 ⟨rfl, hG3, hk3⟩)
        go_ret
        exact ⟨by rw [HE.out]; rfl, by rw [HF.out]; exact hG3, (Kept.of_below hb2 _).trans (hk3.mono fun b _ hb => .inr (.inr (.inl hb)))⟩
      · have HF : Hid (G.move R to from_ n = G) := if_neg (fun x => hn x.2)
        obtain rfl : n = 0 := by omega
        clear h hs hf ht hn
        go_enter Try.func86, Try.ntmps86
        go_wp2_with fail
        refine (gaccess_any p vc bb G R from_ 0 w HR.out HS.out.sim f1).mono ?_
        rw [HA.out]
        rintro e1 w1 ⟨rfl, hb1⟩
        go_wp2_with fail
        refine (gaccess_any p vc bb G R to 0 w1 (HR.out.below hb1) HS.out.sim t1).mono ?_
        rw [HB.out]
        rintro e1 w2 ⟨rfl, hb2'⟩
        have hb2 : Below w.heap.size w w2 := hb1.trans (hb2'.mono hb1.size)
        go_wp2
        go_ret
        exact ⟨by rw [HE.out]; rfl, by rw [HF.out]; exact HR.out.below hb2, Kept.of_below hb2 _⟩
    · have HE : Hid (R.moveErr to from_ n = (R.access to n).1) := if_neg (by simp [hf])
      have HF : Hid (G.move R to from_ n = G) := if_neg (fun x => ht (by rw [← HE.out]; exact x.1))
      have hab : ((R.access to n).1 != 0) = true := by simp [ht]
      clear h hs hf ht
      go_enter Try.func86, Try.ntmps86
      go_wp2_with fail
      refine (gaccess_any p vc bb G R from_ n w HR.out HS.out.sim f1).mono ?_
      rw [HA.out]
      rintro e1 w1 ⟨rfl, hb1⟩
      go_wp2_with fail
      refine (gaccess_any p vc bb G R to n w1 (HR.out.below hb1) HS.out.sim t1).mono ?_
      rintro e1 w2 ⟨rfl, hb2'⟩
      have hb2 : Below w.heap.size w w2 := hb1.trans (hb2'.mono hb1.size)
      go_wp2
      go_ret
      exact ⟨by rw [HE.out]; rfl, by rw [HF.out]; exact HR.out.below hb2, Kept.of_below hb2 _⟩
  · have HE : Hid (R.moveErr to from_ n = (R.access from_ n).1) := if_pos hf
    have HF : Hid (G.move R to from_ n = G) := if_neg (fun x => hf (by rw [← HE.out]; exact x.1))
    have hab : ((R.access from_ n).1 != 0) = true := by simp [hf]
    clear h hs hf
    go_enter Try.func86, Try.ntmps86
    go_wp2_with (go_at_call 98; refine (gaccess_any p vc bb G R from_ n w HR.out HS.out.sim f1).mono ?_; rintro e1 w1 ⟨rfl, hb1⟩)
    go_ret
    exact ⟨by rw [HE.out]; rfl, by rw [HF.out]; exact HR.out.below hb1, Kept.of_below hb1 _⟩
end Go.Proofs.Ytjikemhmnkckcaa
