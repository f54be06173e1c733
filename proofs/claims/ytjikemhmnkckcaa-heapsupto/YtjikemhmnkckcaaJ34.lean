import Derived.Test.YtjikemhmnkckcaaJ33
import Derived.Test.YtjikemhmnkckcaaJ17
/- Which block a pointer has, behind events. Plain mathematics. -/
namespace Go.Proofs.Ytjikemhmnkckcaa
open Go.RowKit

theorem state_of (log : List Ref.Ev) (k s : Int) : Ref.state log k s = 2 ∧ Ref.given log k s < 0 ∨ Ref.state log k s = 3 ∧ 0 ≤ Ref.given log k s ∧ Ref.gone log k s < 0 ∨ Ref.state log k s = 4 ∧ 0 ≤ Ref.given log k s ∧ 0 ≤ Ref.gone log k s := by
  unfold Ref.state
  by_cases h1 : Ref.given log k s < 0
  · rw [if_pos h1]; exact .inl ⟨rfl, h1⟩
  · rw [if_neg h1]
    by_cases h2 : Ref.gone log k s < 0
    · rw [if_pos h2]; exact .inr (.inl ⟨rfl, by omega, h2⟩)
    · rw [if_neg h2]; exact .inr (.inr ⟨rfl, by omega, by omega⟩)

theorem match_uniq {st rest : Int} {cls : List (Int × Int)} (hv : Cf.Valid st rest cls) (log : List Ref.Ev) (a t : Int) (k s k' s' : Nat) (hk : k < cls.length) (hs : s < (Cf.sl cls k).toNat) (hk' : k' < cls.length) (hs' : s' < (Cf.sl cls k').toNat)
    (hm : Ref.matchB st cls log a t k s = true) (hm' : Ref.matchB st cls log a t k' s' = true) : k' = k ∧ s' = s := by
  have key : ∀ k s, k < cls.length → s < (Cf.sl cls k).toNat → Ref.matchB st cls log a t k s = true → Cf.slot st cls a = ((k : Int), (s : Int)) := fun k s hk hs hm => by
    have hbe := ((match_iff _ _ _ _ _ _ _).1 hm).1
    have hi := Cf.inS_begin hv k s hk
    rw [hbe] at hi
    exact Cf.slot_found hv _ k s hk hs hi
  have e1 := key k s hk hs hm
  rw [key k' s' hk' hs' hm'] at e1
  have e2 := congrArg Prod.fst e1
  have e3 := congrArg Prod.snd e1
  simp at e2 e3
  omega

theorem block_iff {st rest : Int} {cls : List (Int × Int)} (hv : Cf.Valid st rest cls) (log : List Ref.Ev) (q : Int) (k s : Nat) :
    Ref.block st cls log q = ((k : Int), (s : Int), 0) ↔ k < cls.length ∧ s < (Cf.sl cls k).toNat ∧ Ref.tameB q = true ∧ Cf.begin_ st cls k s = q % 72057594037927936 ∧ Ref.last log k s = q / 72057594037927936 ∧ Ref.state log k s = 3 := by
  unfold Ref.block
  cases ht : Ref.tameB q
  · simp
  · rw [if_pos rfl]
    change Ref.blockFrom st cls log (q % 72057594037927936) (q / 72057594037927936) cls.length 0 = _ ↔ _
    by_cases hx : ∃ k0 s0, k0 < cls.length ∧ s0 < (Cf.sl cls k0).toNat ∧ Ref.matchB st cls log (q % 72057594037927936) (q / 72057594037927936) k0 s0 = true
    · obtain ⟨k0, s0, hk0, hs0, hm0⟩ := hx
      have hm := (match_iff _ _ _ _ _ _ _).1 hm0
      rw [blockFrom_one _ _ _ _ _ k0 s0 _ _ (by omega) (by omega) hs0 hm0 (fun k' s' h1 h2 h3 => match_uniq hv log _ _ k0 s0 k' s' hk0 hs0 (by omega) h2 hm0 h3)]
      constructor
      · intro h
        by_cases h4 : Ref.state log k0 s0 = 4
        · rw [if_pos h4] at h; simp at h
        · rw [if_neg h4] at h
          have e1 := congrArg Prod.fst h
          have e2 := congrArg (fun x => x.2.1) h
          simp at e1 e2
          obtain rfl : k0 = k := by omega
          obtain rfl : s0 = s := by omega
          refine ⟨hk0, hs0, rfl, hm.1, hm.2.1, ?_⟩
          rcases state_of log k0 s0 with h | h | h <;> omega
      · rintro ⟨h1, h2, _, h4, h5, h6⟩
        have := match_uniq hv log _ _ k0 s0 k s hk0 hs0 h1 h2 hm0 ((match_iff _ _ _ _ _ _ _).2 ⟨h4, h5, by omega⟩)
        obtain ⟨rfl, rfl⟩ := this
        rw [if_neg (by omega)]
    · rw [blockFrom_none _ _ _ _ _ _ _ (fun k' s' _ h2 h3 => by
        cases e : Ref.matchB st cls log (q % 72057594037927936) (q / 72057594037927936) k' s'
        · rfl
        · exact absurd ⟨k', s', by omega, h3, e⟩ hx)]
      constructor
      · intro h; simp at h
      · rintro ⟨h1, h2, _, h4, h5, h6⟩
        exact absurd ⟨k, s, h1, h2, (match_iff _ _ _ _ _ _ _).2 ⟨h4, h5, by omega⟩⟩ hx

/-- an event that does not speak of the slot -/
theorem given_other (log : List Ref.Ev) (e : Ref.Ev) (k s : Int) (hg : e.gives k s = false) : Ref.given (log ++ [e]) k s = Ref.given log k s := by
  rw [Ref.given_snoc, if_neg (by rw [hg]; decide)]
theorem last_other (log : List Ref.Ev) (e : Ref.Ev) (k s : Int) (hg : e.gives k s = false) : Ref.last (log ++ [e]) k s = Ref.last log k s := by
  unfold Ref.last
  have h1 := Ref.given_hi log k s
  rw [given_other log e k s hg]
  by_cases h : Ref.given log k s < 0
  · rw [if_pos h, if_pos h]
  · rw [if_neg h, if_neg h, Ref.getD_old _ _ _ (by omega)]
theorem size_other (log : List Ref.Ev) (e : Ref.Ev) (k s : Int) (hg : e.gives k s = false) (h0 : 0 ≤ Ref.given log k s) : (log ++ [e]).getD (Ref.given (log ++ [e]) k s).toNat Ref.Ev.no = log.getD (Ref.given log k s).toNat Ref.Ev.no := by
  have h1 := Ref.given_hi log k s
  rw [given_other log e k s hg, Ref.getD_old _ _ _ (by omega)]
theorem state_other (log : List Ref.Ev) (e : Ref.Ev) (k s : Int) (hg : e.gives k s = false) (ht : e.takes k s = false) : Ref.state (log ++ [e]) k s = Ref.state log k s := by
  unfold Ref.state
  rw [given_other log e k s hg, Ref.gone_snoc log e k s hg]
  have := Ref.gone_lo log k s
  by_cases h : 0 ≤ Ref.gone log k s
  · rw [if_pos h]
  · rw [if_neg h, ht, show Ref.gone log k s = -1 by omega]; rfl
theorem state_gives (log : List Ref.Ev) (e : Ref.Ev) (k s : Int) (hg : e.gives k s = true) : Ref.state (log ++ [e]) k s = 3 := by
  unfold Ref.state
  rw [Ref.given_snoc, if_pos hg, Ref.gone_gives log e k s hg, if_neg (by omega), if_pos (by omega)]
theorem state_takes (log : List Ref.Ev) (e : Ref.Ev) (k s : Int) (hg : e.gives k s = false) (ht : e.takes k s = true) (h3 : Ref.state log k s = 3) : Ref.state (log ++ [e]) k s = 4 := by
  rcases state_of log k s with h | h | h
  · omega
  · unfold Ref.state
    have hn : ¬ (0 ≤ Ref.gone log k s) := by omega
    have hg2 : ¬ (Ref.given log k s < 0) := by omega
    rw [given_other log e k s hg, Ref.gone_snoc log e k s hg, if_neg hg2, if_neg hn, if_pos ht, if_neg (by omega)]
  · omega
theorem last_gives (log : List Ref.Ev) (e : Ref.Ev) (k s : Int) (hg : e.gives k s = true) : Ref.last (log ++ [e]) k s = e.tag := by
  unfold Ref.last
  rw [Ref.given_snoc, if_pos hg, if_neg (by omega), Int.toNat_natCast, Ref.getD_new]
theorem size_gives (log : List Ref.Ev) (e : Ref.Ev) (k s : Int) (hg : e.gives k s = true) : (log ++ [e]).getD (Ref.given (log ++ [e]) k s).toNat Ref.Ev.no = e := by
  rw [Ref.given_snoc, if_pos hg, Int.toNat_natCast, Ref.getD_new]

/-- the tag where the event does not speak of the slot -/
theorem tag_other (st : Int) (cls : List (Int × Int)) (log : List Ref.Ev) (e : Ref.Ev) (addr : Int) (hg : 0 ≤ (Cf.slot st cls addr).1 → e.gives (Cf.slot st cls addr).1 (Cf.slot st cls addr).2 = false ∧ e.takes (Cf.slot st cls addr).1 (Cf.slot st cls addr).2 = false) :
    Cf.tag st cls (log ++ [e]) addr = Cf.tag st cls log addr := by
  unfold Cf.tag
  by_cases h1 : 16 ≤ addr ∧ addr < 16 * (1 + st)
  · rw [if_pos h1, if_pos h1]
  · rw [if_neg h1, if_neg h1]
    by_cases h2 : (Cf.slot st cls addr).1 < 0
    · rw [if_pos h2, if_pos h2]
    · rw [if_neg h2, if_neg h2]
      obtain ⟨a, b⟩ := hg (by omega)
      rw [state_other _ _ _ _ a b]
      by_cases h3 : Ref.state log (Cf.slot st cls addr).1 (Cf.slot st cls addr).2 = 3
      · have hn : ¬ (Ref.state log (Cf.slot st cls addr).1 (Cf.slot st cls addr).2 ≠ 3) := fun x => x h3
        rw [if_neg hn, if_neg hn]
        rcases state_of log (Cf.slot st cls addr).1 (Cf.slot st cls addr).2 with h | h | h
        · omega
        · rw [size_other _ _ _ _ a h.2.1]
        · omega
      · rw [if_pos h3, if_pos h3]
/-- in static memory there is no slot -/
theorem static_slot {st rest : Int} {cls : List (Int × Int)} (hv : Cf.Valid st rest cls) (addr : Int) (h : addr < 16 * (1 + st)) : Cf.slot st cls addr = (-1, -1) := by
  rcases Cf.slot_bd st cls addr with hsl | ⟨k, s, hsl, hk, hs, hin⟩
  · exact hsl
  · exfalso
    simp only [Cf.inS, Bool.and_eq_true, decide_eq_true_eq] at hin
    have h1 := Cf.gran_mono hv 0 k (by omega) (by omega)
    have h2 : Cf.gran st cls 0 = 1 + st + 1 := rfl
    have h3 := hv.g0 k hk
    have h4 : 0 ≤ (s : Int) * Cf.gr cls k := Int.mul_nonneg (by omega) (by omega)
    have h5 := hin.1
    unfold Cf.begin_ at h5
    omega
/-- of an address within a slot's bytes -/
theorem slot_at {st rest : Int} {cls : List (Int × Int)} (hv : Cf.Valid st rest cls) (k s : Nat) (hk : k < cls.length) (hs : s < (Cf.sl cls k).toNat) (addr : Int) (h0 : Cf.begin_ st cls k s ≤ addr) (h1 : addr < Cf.begin_ st cls k s + 16 * Cf.gr cls k) : Cf.slot st cls addr = ((k : Int), (s : Int)) :=
  Cf.slot_found hv addr k s hk hs (by simp only [Cf.inS, Bool.and_eq_true, decide_eq_true_eq]; exact ⟨h0, h1⟩)
/-- the tag in a live block -/
theorem tag_live {R : RSt} (hv : Cf.Valid R.st R.rest R.cls) (k s : Nat) (hk : k < R.cls.length) (hs : s < (Cf.sl R.cls k).toNat) (h3 : Ref.state R.log k s = 3) (addr : Int) (h0 : Cf.begin_ R.st R.cls k s ≤ addr)
    (h1 : addr < Cf.begin_ R.st R.cls k s + 16 * (R.log.getD (Ref.given R.log k s).toNat Ref.Ev.no).size) (hz : (R.log.getD (Ref.given R.log k s).toNat Ref.Ev.no).size ≤ Cf.gr R.cls k) : R.tag addr = Ref.last R.log k s := by
  have hsl := slot_at hv k s hk hs addr h0 (by omega)
  have hb : ¬ (16 ≤ addr ∧ addr < 16 * (1 + R.st)) := fun x => by
    rw [static_slot hv addr x.2] at hsl
    have := congrArg Prod.fst hsl
    simp at this
  unfold RSt.tag Cf.tag
  rw [if_neg hb, hsl]
  simp only [Int.toNat_natCast]
  rw [if_neg (by omega), if_neg (by simp [h3]), if_neg (by omega)]
  unfold Ref.last
  rcases state_of R.log k s with h | h | h
  · omega
  · rw [if_neg (by omega)]
  · omega
/-- .. behind it, and in a slot that is not live -/
theorem tag_rest {R : RSt} (hv : Cf.Valid R.st R.rest R.cls) (k s : Nat) (hk : k < R.cls.length) (hs : s < (Cf.sl R.cls k).toNat) (addr : Int) (h0 : Cf.begin_ R.st R.cls k s ≤ addr) (h1 : addr < Cf.begin_ R.st R.cls k s + 16 * Cf.gr R.cls k)
    (h : Ref.state R.log k s ≠ 3 ∨ Cf.begin_ R.st R.cls k s + 16 * (R.log.getD (Ref.given R.log k s).toNat Ref.Ev.no).size ≤ addr) : R.tag addr = 15 := by
  have hsl := slot_at hv k s hk hs addr h0 h1
  have hb : ¬ (16 ≤ addr ∧ addr < 16 * (1 + R.st)) := fun x => by
    rw [static_slot hv addr x.2] at hsl
    have := congrArg Prod.fst hsl
    simp at this
  unfold RSt.tag Cf.tag
  rw [if_neg hb, hsl]
  simp only [Int.toNat_natCast]
  rw [if_neg (by omega)]
  by_cases h3 : Ref.state R.log k s = 3
  · rw [if_neg (by simp [h3]), if_pos (by rcases h with h | h; exact absurd h3 h; exact h)]
  · rw [if_pos h3]

/-- the event that gave the slot out -/
theorem givenTo_at (log : List Ref.Ev) (k s : Int) (m : Nat) (h : 0 ≤ Ref.givenTo log k s m) : (log.getD (Ref.givenTo log k s m).toNat Ref.Ev.no).gives k s = true := by
  induction m with
  | zero => simp [Ref.givenTo] at h
  | succ m ih =>
    simp only [Ref.givenTo] at h ⊢
    split
    · rename_i hg; rw [Int.toNat_natCast]; exact hg
    · rename_i hg; rw [if_neg hg] at h; exact ih h
theorem given_at (log : List Ref.Ev) (k s : Int) (h : 0 ≤ Ref.given log k s) : (log.getD (Ref.given log k s).toNat Ref.Ev.no).back = false ∧ (log.getD (Ref.given log k s).toNat Ref.Ev.no).cls = k ∧ (log.getD (Ref.given log k s).toNat Ref.Ev.no).slot = s := by
  have := givenTo_at log k s log.length h
  simp only [Ref.Ev.gives, Bool.and_eq_true, Bool.not_eq_true', beq_iff_eq] at this
  exact ⟨this.1.1, this.1.2, this.2⟩
theorem Fits.size {R : RSt} (h : Fits R) (k s : Nat) (hg : 0 ≤ Ref.given R.log k s) : 1 ≤ (R.log.getD (Ref.given R.log k s).toNat Ref.Ev.no).size ∧ (R.log.getD (Ref.given R.log k s).toNat Ref.Ev.no).size ≤ Cf.gr R.cls k := by
  have g2 := Ref.given_hi R.log k s
  obtain ⟨h1, h2, _⟩ := given_at R.log k s hg
  have h3 := h (Ref.given R.log k s).toNat (by omega) h1
  rw [h2, Int.toNat_natCast] at h3
  exact ⟨h3.1, h3.2.1⟩
theorem Fits.tag {R : RSt} (h : Fits R) (k s : Nat) (hg : 0 ≤ Ref.given R.log k s) : 1 ≤ Ref.last R.log k s ∧ Ref.last R.log k s ≤ 14 := by
  have g2 := Ref.given_hi R.log k s
  obtain ⟨h1, _, _⟩ := given_at R.log k s hg
  have h3 := h (Ref.given R.log k s).toNat (by omega) h1
  unfold Ref.last
  rw [if_neg (by omega)]
  exact h3.2.2
theorem Fits.snoc {R : RSt} (h : Fits R) (e : Ref.Ev) (he : e.back = false → 1 ≤ e.size ∧ e.size ≤ Cf.gr R.cls e.cls.toNat ∧ 1 ≤ e.tag ∧ e.tag ≤ 14) : Fits ⟨R.st, R.rest, R.cls, R.log ++ [e], R.marks⟩ := by
  intro i hi hb
  change i < (R.log ++ [e]).length at hi
  change ((R.log ++ [e]).getD i Ref.Ev.no).back = false at hb
  show 1 ≤ ((R.log ++ [e]).getD i Ref.Ev.no).size ∧ ((R.log ++ [e]).getD i Ref.Ev.no).size ≤ Cf.gr R.cls ((R.log ++ [e]).getD i Ref.Ev.no).cls.toNat ∧ 1 ≤ ((R.log ++ [e]).getD i Ref.Ev.no).tag ∧ ((R.log ++ [e]).getD i Ref.Ev.no).tag ≤ 14
  by_cases hlt : i < R.log.length
  · rw [Ref.getD_old R.log e i hlt] at hb ⊢
    exact h i hlt hb
  · have : i = R.log.length := by simp at hi; omega
    subst this
    rw [Ref.getD_new] at hb ⊢
    exact he hb
end Go.Proofs.Ytjikemhmnkckcaa
/- The program's near: those of a slot and its two neighbours that had a tag last. -/
namespace Go.Proofs.Ytjikemhmnkckcaa
open Go.RowKit

def nearCells (x : Int × Int × Int) : List Value := [.int .i64 x.1, .int .i64 x.2.1, .int .i64 x.2.2]
def nearAt (xs : List GSlot) (j tag : Int) : List (Int × Int × Int) :=
  if 0 ≤ j ∧ j < xs.length ∧ ghad (xs.getD j.toNat GSlot.no) tag = true then [(j, (xs.getD j.toNat GSlot.no).alloc, (xs.getD j.toNat GSlot.no).gone)] else []
def nearTo (xs : List GSlot) (i tag : Int) : Nat → List (Int × Int × Int)
  | 0 => []
  | m + 1 => nearTo xs i tag m ++ nearAt xs (i - 1 + m) tag
def gnear (xs : List GSlot) (i tag : Int) : List (Int × Int × Int) := nearTo xs i tag 3
theorem nearAt_len (xs : List GSlot) (j tag : Int) : (nearAt xs j tag).length ≤ 1 := by unfold nearAt; split <;> simp
theorem nearTo_len (xs : List GSlot) (i tag : Int) (m : Nat) : (nearTo xs i tag m).length ≤ m := by
  induction m with
  | zero => simp [nearTo]
  | succ m ih =>
    have := nearAt_len xs (i - 1 + m) tag
    simp only [nearTo, List.length_append]; omega
theorem info_near : (Try.prog.info? 117).map (fun i => (i.zero, i.size, i.bytes)) = some (some (.agg #[.int .i64 0, .int .i64 0, .int .i64 0]), 3, 24) := by kernel_rfl

/-- a list that grows within a loop -/
structure NearRel (w : World) (l : List (Int × Int × Int)) (v : Value) (wr : World) : Prop where
  below : Below w.heap.size w wr
  row : wr.ownsRow 0 117 3 v l.length (l.flatMap nearCells)
  vlo : ∀ g, v.ownBlock = some g → w.heap.size ≤ g
theorem NearRel.later {w wr w' : World} {l : List (Int × Int × Int)} {v : Value} (h : NearRel w l v wr) (b : Below wr.heap.size wr w') : NearRel w l v w' :=
  ⟨h.below.trans (b.mono h.below.size), row_below h.row b fun _ => row_lt h.row, h.vlo⟩
theorem NearRel.step {w wr : World} {l : List (Int × Int × Int)} {v : Value} (hr : NearRel w l v wr) (x : Int × Int × Int) {cs : Array Value} {t : TypeId} {w2 : World} {gg cap2 : Nat}
    (hown1 : w2.ownsRow 0 117 3 (.slice (some ⟨gg, 0, none⟩) (l.length + 1) cap2) (l.length + 1) (l.flatMap nearCells ++ nearCells x))
    (hgrow : (wr.alloc (.cells cs t)).grownBy w2 v.ownBlock) (hat : v.ownBlock = some gg ∨ gg = wr.heap.size + 1) :
    NearRel w (l ++ [x]) (.slice (some ⟨gg, 0, none⟩) (l.length + 1) cap2) w2 := by
  have hsz := hr.below.size
  refine ⟨?_, ?_, ?_⟩
  · exact (hr.below.alloc (by omega) _).grown hgrow (by rw [World.size_alloc]; omega) (fun k hk => hr.vlo k hk)
  · rw [List.length_append, List.flatMap_append]
    simpa using hown1
  · intro g hg
    simp [Value.ownBlock] at hg
    subst hg
    rcases hat with h | h
    · exact hr.vlo gg h
    · omega

set_option maxRecDepth 100000 in
set_option maxHeartbeats 3200000 in
theorem near_any (cb co sb : Nat) (xs : List GSlot) (i tag : Int) (w : World) (hc : w.cell? ⟨cb, co + 2, none⟩ = some (.slice (some ⟨sb, 0, none⟩) xs.length xs.length)) (hcb : cb < w.heap.size) (hs : Blk w sb 79 (xs.flatMap slotCells)) (hlen : xs.length ≤ 16) (i0 : 0 ≤ i) (i1 : i < xs.length) :
    Calls Try.prog 101 #[.pointer (some ⟨cb, co, none⟩), .int .i64 i, .int .i64 tag] w fun e w' => ∃ v, e = .returned v ∧ NearRel w (gnear xs i tag) v w' := by
  obtain ⟨n0, hn0, hz0, hz1, hz2⟩ := info_parts info_near
  have HS := hide2 hs
  have hsl := hs.lt
  clear hs
  go_enter Try.func101, Try.ntmps101
  go_wp2
  go_loopw [7, 8] (fun l j wr => ∃ m : Nat, m ≤ 3 ∧ j = .int .i64 (i - 1 + (m : Int)) ∧ Hid (NearRel w (nearTo xs i tag m) l wr)) (fun _ j _ => (i + 2 - intOf j).toNat)
  case atStart => exact ⟨0, by omega, by simp, ⟨Below.refl _ _, World.ownsRow_nil _ _ _ _, nofun⟩⟩
  case round =>
    obtain ⟨m, hm, rfl, HR⟩ := hrel
    have hc' := (HR.out.below.cell (p := ⟨cb, co + 2, none⟩) hcb).trans hc
    have hsz := HR.out.below.size
    have HST : Hid (nearTo xs i tag (m + 1) = nearTo xs i tag m ++ nearAt xs (i - 1 + m) tag) := rfl
    by_cases hlt : m < 3
    · have hjl : i - 1 + (m : Int) ≤ i + 1 := by omega
      by_cases hj : i - 1 + (m : Int) < 0
      · have HN : Hid (nearTo xs i tag (m + 1) = nearTo xs i tag m) := by
          show _ = _
          rw [HST.out]; unfold nearAt; rw [if_neg (by omega), List.append_nil]
        go_wp2
        go_roundw
        case rel => exact ⟨m + 1, by omega, by congr 1; omega, by rw [HN.out]; exact HR⟩
        case measure => simp [intOf]; omega
      · by_cases hj2 : (xs.length : Int) ≤ i - 1 + (m : Int)
        · have HN : Hid (nearTo xs i tag (m + 1) = nearTo xs i tag m) := by
            show _ = _
            rw [HST.out]; unfold nearAt; rw [if_neg (by omega), List.append_nil]
          go_wp2
          go_roundw
          case rel => exact ⟨m + 1, by omega, by congr 1; omega, by rw [HN.out]; exact HR⟩
          case measure => simp [intOf]; omega
        · obtain ⟨j, hjn⟩ := Int.eq_ofNat_of_zero_le (show 0 ≤ i - 1 + (m : Int) by omega)
          have hjx : j < xs.length := by omega
          have HA : Hid (nearAt xs (i - 1 + m) tag = if ghad (xs.getD j GSlot.no) tag = true then [((j : Int), (xs.getD j GSlot.no).alloc, (xs.getD j GSlot.no).gone)] else []) := by
            show _ = _
            unfold nearAt
            rw [hjn, Int.toNat_natCast]
            by_cases c : ghad (xs.getD j GSlot.no) tag = true
            · rw [if_pos ⟨by omega, by omega, c⟩, if_pos c]
            · rw [if_neg (fun y => c y.2.2), if_neg c]
          obtain ⟨e0, e1, e2, e3, e4, e5⟩ := slot_cells HS.out j hjx
          have e0' := (HR.out.below.cell (p := ⟨sb, j * 6, none⟩) hsl).trans e0
          have e1' := (HR.out.below.cell (p := ⟨sb, j * 6 + 1, none⟩) hsl).trans e1
          have e2' := (HR.out.below.cell (p := ⟨sb, j * 6 + 2, none⟩) hsl).trans e2
          have e3' := (HR.out.below.cell (p := ⟨sb, j * 6 + 3, none⟩) hsl).trans e3
          have e4' := (HR.out.below.cell (p := ⟨sb, j * 6 + 4, none⟩) hsl).trans e4
          have e5' := (HR.out.below.cell (p := ⟨sb, j * 6 + 5, none⟩) hsl).trans e5
          clear e0 e1 e2 e3 e4 e5
          generalize xs.getD j GSlot.no = x at *
          have HJ := hide2 hjn
          have hjI : (j : Int) < (xs.length : Int) := by omega
          have hji : (j : Int) ≤ i + 1 := by omega
          rw [hjn]
          clear hjn hj hj2 hjl
          go_wp2_with fail
          have hsc : Blk (wr.alloc (.cells #[.int .i64 x.state, .int .i64 x.tag, .int .i64 x.bytes, .int .i64 x.rest, .int .i64 x.alloc, .int .i64 x.gone] 79)) wr.heap.size 79 [.int .i64 x.state, .int .i64 x.tag, .int .i64 x.bytes, .int .i64 x.rest, .int .i64 x.alloc, .int .i64 x.gone] := Blk.alloc wr _ _
          have hba : Below wr.heap.size wr (wr.alloc (.cells #[.int .i64 x.state, .int .i64 x.tag, .int .i64 x.bytes, .int .i64 x.rest, .int .i64 x.alloc, .int .i64 x.gone] 79)) := (Below.refl _ _).alloc (Nat.le_refl _) _
          obtain ⟨ob, hobe⟩ : ∃ ob, ob = wr.heap.size := ⟨_, rfl⟩
          rw [← hobe] at hsc ⊢
          generalize (wr.alloc (.cells #[.int .i64 x.state, .int .i64 x.tag, .int .i64 x.bytes, .int .i64 x.rest, .int .i64 x.alloc, .int .i64 x.gone] 79)) = w4 at *
          have hs4 := hsc.lt
          refine (had_any x tag w4).mono ?_
          cases hz : ghad x tag
          · have HN : Hid (nearTo xs i tag (m + 1) = nearTo xs i tag m) := by
              show _ = _
              rw [HST.out, HA.out, hz, if_neg (by decide), List.append_nil]
            rintro e1 w5 ⟨rfl, hb5⟩
            have HR5 := hide2 ((HR.out.later hba).later hb5)
            clear hb5 hba hsc hobe e0' e1' e2' e3' e4' e5' hz HA
            go_wp2
            go_roundw
            case rel => exact ⟨m + 1, by omega, by have := HJ.out; congr 1; omega, by rw [HN.out]; exact HR5⟩
            case measure => simp [intOf]; omega
          · have HN : Hid (nearTo xs i tag (m + 1) = nearTo xs i tag m ++ [((j : Int), x.alloc, x.gone)]) := by
              show _ = _
              rw [HST.out, HA.out, hz, if_pos rfl]
            rintro e1 w5 ⟨rfl, hb5⟩
            have HR5 := hide2 ((HR.out.later hba).later hb5)
            have q4 := (hb5.cell (p := ⟨ob, 4, none⟩) hs4).trans (hsc.cell (j := 4) rfl)
            have q5 := (hb5.cell (p := ⟨ob, 5, none⟩) hs4).trans (hsc.cell (j := 5) rfl)
            have hob5 : ob < w5.heap.size := Nat.lt_of_lt_of_le hs4 hb5.size
            have hlm := nearTo_len xs i tag m
            have hrow := hide2 HR5.out.row
            clear hb5 hba hsc hobe e0' e1' e2' e3' e4' e5' hz HA
            go_wp2_with (at_builtin; refine wpList_append_lies _ rfl _ _ _ rfl 0 117 n0 _ 3 24 Try.underlying62 hn0 hz0 hz1 hz2 rfl (by omega) u7 (nearTo xs i tag m).length _ rfl (hrow.out.alloc _) ⟨w5.heap.size, 0, none⟩ 1 1 [.int .i64 (j : Int), .int .i64 x.alloc, .int .i64 x.gone] rfl rfl (World.news_of_block (cs := #[.int .i64 (j : Int), .int .i64 x.alloc, .int .i64 x.gone]) (t := 117) (fr := (0, 0)) (heap_alloc_new w5 _)) (by simp [Value.oneCell']) (by omega) (by simp [maxLen]; omega) (by omega) (by simp) (w5.heap.size + 1) (by simp) ?_; intro gg cap2 w7 hown hgrow hat hlt7)
            go_roundw
            case rel => exact ⟨m + 1, by omega, by have := HJ.out; congr 1; omega, by rw [HN.out]; exact HR5.out.step ((j : Int), x.alloc, x.gone) hown hgrow hat⟩
            case measure => simp [intOf]; omega
    · obtain rfl : m = 3 := by omega
      have hji : i + 1 < i - 1 + ((3 : Nat) : Int) := by omega
      go_wp2
      go_ret
      exact ⟨_, rfl, HR.out⟩
end Go.Proofs.Ytjikemhmnkckcaa
