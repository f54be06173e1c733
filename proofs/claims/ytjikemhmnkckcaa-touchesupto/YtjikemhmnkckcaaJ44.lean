import Derived.Test.YtjikemhmnkckcaaJ43
/- The simulation with its bytes. Plain mathematics. -/
namespace Go.Proofs.Ytjikemhmnkckcaa
open Go.RowKit

/-- what is given out fits into its slot -/
def Fits (R : RSt) : Prop := ∀ i, i < R.log.length → (R.log.getD i Ref.Ev.no).back = false → 1 ≤ (R.log.getD i Ref.Ev.no).size ∧ (R.log.getD i Ref.Ev.no).size ≤ Cf.gr R.cls (R.log.getD i Ref.Ev.no).cls.toNat ∧ 1 ≤ (R.log.getD i Ref.Ev.no).tag ∧ (R.log.getD i Ref.Ev.no).tag ≤ 14

/-- .. where something may be touched, both have the same byte -/
structure SimB (G : GSt) (R : RSt) : Prop where
  sim : Sim G R
  marks : MarksOk R
  mem : ∀ i, i < G.mem.length → 0 ≤ G.mem.getD i 0 ∧ G.mem.getD i 0 ≤ 255
  bytes : ∀ addr : Int, R.tag addr ≠ -1 → R.tag addr ≠ 15 → G.mem.getD addr.toNat 0 = R.byte addr
  fits : Fits R

theorem Sim.small {G : GSt} {R : RSt} (h : Sim G R) : G.mem.length ≤ 1000000 := by
  have h1 := h.mem
  have h2 := Cf.gran_bd h.rok.conf R.cls.length (Nat.le_refl _)
  have h3 := h.rok.conf.n1
  rw [h.st] at h1
  omega

/-- memory that is there -/
theorem Sim.there {G : GSt} {R : RSt} (h : Sim G R) (addr : Int) (ht : R.tag addr ≠ -1) : 16 ≤ addr ∧ addr < (G.mem.length : Int) := by
  have hv := h.rok.conf
  have hm := h.mem
  rw [h.st] at hm
  unfold RSt.tag Cf.tag at ht
  by_cases h1 : 16 ≤ addr ∧ addr < 16 * (1 + R.st)
  · have h2 := Cf.gran_mono hv 0 R.cls.length (by omega) (Nat.le_refl _)
    have h3 : Cf.gran R.st R.cls 0 = 2 + R.st := by simp only [Cf.gran]; omega
    omega
  · rw [if_neg h1] at ht
    rcases Cf.slot_bd R.st R.cls addr with hsl | ⟨k, s, hsl, hk, hs, hin⟩
    · rw [hsl] at ht; simp at ht
    · have he := Cf.begin_end hv k s hk (by omega)
      have hb := Cf.begin_bd hv k hk s (by omega) (by have := hv.s1 k hk; omega)
      simp only [Cf.inS, Bool.and_eq_true, decide_eq_true_eq] at hin
      omega

theorem accFrom_zero (tag : Int → Int) (t a : Int) (f i : Nat) (h : (Ref.accFrom tag t a f i).1 = 0) : ∀ j : Nat, i ≤ j → j < i + f → tag (a + j) = t ∧ t ≠ -1 ∧ t ≠ 15 := by
  induction f generalizing i with
  | zero => intro j h1 h2; omega
  | succ f ih =>
    intro j h1 h2
    simp only [Ref.accFrom] at h
    by_cases e1 : tag (a + i) = -1
    · rw [if_pos e1] at h; simp at h
    · rw [if_neg e1] at h
      by_cases e2 : tag (a + i) = 15 ∨ tag (a + i) ≠ t
      · rw [if_pos e2] at h; simp at h
      · rw [if_neg e2] at h
        by_cases ej : j = i
        · subst ej; omega
        · exact ih (i + 1) h j (by omega) (by omega)

/-- what an access that is let through tells -/
theorem access_tags {R : RSt} {q n : Int} (h : (R.access q n).1 = 0) (hn : 0 < n) (j : Nat) (hj : (j : Int) < n) : R.tag (q % 72057594037927936 + j) = q / 72057594037927936 ∧ R.tag (q % 72057594037927936 + j) ≠ -1 ∧ R.tag (q % 72057594037927936 + j) ≠ 15 := by
  have ht := access_ok h hn
  unfold RSt.access at h
  rw [if_neg (by omega), if_neg (by omega), ht.1, if_pos rfl] at h
  have := accFrom_zero _ _ _ _ _ h j (by omega) (by omega)
  omega

/-- .. all its bytes are there -/
theorem Sim.access_in {G : GSt} {R : RSt} (h : Sim G R) {q n : Int} (ha : (R.access q n).1 = 0) (hn : 0 < n) : 16 ≤ q % 72057594037927936 ∧ q % 72057594037927936 + n ≤ (G.mem.length : Int) := by
  have h0 := h.there _ (access_tags ha hn 0 (by omega)).2.1
  have h1 := h.there _ (access_tags ha hn (n - 1).toNat (by omega)).2.1
  omega

theorem tag_marks (R : RSt) (m : List (Int × Int × Int)) (addr : Int) : RSt.tag ⟨R.st, R.rest, R.cls, R.log, m⟩ addr = R.tag addr := rfl
theorem tag_same {R R' : RSt} (h1 : R'.st = R.st) (h2 : R'.cls = R.cls) (h3 : R'.log = R.log) (addr : Int) : R'.tag addr = R.tag addr := by unfold RSt.tag; rw [h1, h2, h3]

theorem Sim.memory {G : GSt} {R R' : RSt} (h : Sim G R) (mem : List Int) (hl : mem.length = G.mem.length) (h1 : R'.st = R.st) (h2 : R'.rest = R.rest) (h3 : R'.cls = R.cls) (h4 : R'.log = R.log) : Sim ⟨G.st, G.rest, G.cs, mem⟩ R' := by
  refine ⟨h.st.trans h1.symm, ?_, ⟨?_, ?_, ?_, ?_⟩, ?_, h.rok.same h1 h2 h3 h4, h.bd, ?_⟩
  · show (mem.length : Int) = _
    rw [hl, h3]; exact h.mem
  · rw [h4]; exact h.log.cls0
  · rw [h4]; exact h.log.slot0
  · rw [h4, h3]; exact h.log.slot1
  · rw [h4]; exact h.log.vir
  · rw [h2, h3]; exact ⟨h.ok.conf, h.ok.rest_, h.ok.len, h.ok.bg, h.ok.by_, h.ok.sl⟩
  · rw [h2, h3, h4]; exact h.slots

theorem SimB.write {G : GSt} {R R' : RSt} (h : SimB G R) (mem : List Int) (hl : mem.length = G.mem.length) (h1 : R'.st = R.st) (h2 : R'.rest = R.rest) (h3 : R'.cls = R.cls) (h4 : R'.log = R.log)
    (hm : MarksOk R') (hb : ∀ i, i < mem.length → 0 ≤ mem.getD i 0 ∧ mem.getD i 0 ≤ 255)
    (hs : ∀ addr : Int, 16 ≤ addr → R.tag addr ≠ -1 → R.tag addr ≠ 15 → mem.getD addr.toNat 0 = R'.byte addr) : SimB ⟨G.st, G.rest, G.cs, mem⟩ R' := by
  refine ⟨h.sim.memory mem hl h1 h2 h3 h4, hm, hb, fun addr t1 t2 => ?_, by unfold Fits; rw [h3, h4]; exact h.fits⟩
  rw [tag_same h1 h3 h4] at t1 t2
  exact hs addr (h.sim.there addr t1).1 t1 t2

theorem MarksOk.stores {R : RSt} (h : MarksOk R) (a value : Int) (n : Nat) : MarksOk (R.stores a value n) := by
  induction n with
  | zero => exact h
  | succ n ih => exact ih.mark _ _ (by omega) (by omega)
theorem MarksOk.moves {R : RSt} (h : MarksOk R) (a b : Int) (n : Nat) : MarksOk (R.moves a b n) := by
  induction n with
  | zero => exact h
  | succ n ih => exact ih.mark _ _ (h.byte_bd _).1 (h.byte_bd _).2
theorem MarksOk.copies {R : RSt} (h : MarksOk R) (a b : Int) (n : Nat) : MarksOk (R.copies a b n) := by
  induction n with
  | zero => exact h
  | succ n ih => exact ih.mark _ _ (ih.byte_bd _).1 (ih.byte_bd _).2

theorem SimB.store {G : GSt} {R : RSt} (h : SimB G R) (a n : Nat) (v : Int) (han : a + n ≤ G.mem.length) (hn : n ≤ 8) : SimB ⟨G.st, G.rest, G.cs, setTo G.mem a v n⟩ (R.stores a v n) := by
  have hsame := R.stores_same a v n
  refine h.write _ (setTo_len _ _ _ _) hsame.1 hsame.2.1 hsame.2.2.1 hsame.2.2.2.1 (h.marks.stores _ _ _) (fun i hi => ?_) (fun addr h16 t1 t2 => ?_)
  · rw [setTo_getD _ _ _ _ han]
    split
    · omega
    · exact h.mem i (by rw [← setTo_len G.mem a v n]; exact hi)
  · rw [setTo_getD _ _ _ _ han, RSt.stores_byte]
    by_cases hc : a ≤ addr.toNat ∧ addr.toNat < a + n
    · rw [if_pos hc, if_pos (by omega), show (addr - (a : Int)).toNat = addr.toNat - a by omega, shrV_st v _ (by omega)]
    · rw [if_neg hc, if_neg (by omega)]; exact h.bytes addr t1 t2

theorem SimB.move {G : GSt} {R : RSt} (h : SimB G R) (a b n : Nat) (ha : a + n ≤ G.mem.length) (hb : b + n ≤ G.mem.length) (hr : ∀ j : Nat, j < n → R.tag ((b : Int) + j) ≠ -1 ∧ R.tag ((b : Int) + j) ≠ 15) : SimB ⟨G.st, G.rest, G.cs, copyTo G.mem a b n⟩ (R.moves a b n) := by
  have hsame := R.moves_same a b n
  refine h.write _ (copyTo_len _ _ _ _ ha hb) hsame.1 hsame.2.1 hsame.2.2.1 hsame.2.2.2.1 (h.marks.moves _ _ _) (fun i hi => ?_) (fun addr h16 t1 t2 => ?_)
  · rw [copyTo_len _ _ _ _ ha hb] at hi
    rw [copyTo_getD _ _ _ _ ha hb]
    split
    · exact h.mem _ (by omega)
    · exact h.mem i hi
  · rw [copyTo_getD _ _ _ _ ha hb, RSt.moves_byte]
    by_cases hc : a ≤ addr.toNat ∧ addr.toNat < a + n
    · rw [if_pos hc, if_pos (by omega)]
      have e := hr (addr.toNat - a) (by omega)
      have e2 := h.bytes ((b : Int) + ((addr.toNat - a : Nat) : Int)) e.1 e.2
      rw [show ((b : Int) + ((addr.toNat - a : Nat) : Int)).toNat = b + (addr.toNat - a) by omega] at e2
      rw [e2, show (b : Int) + ((addr.toNat - a : Nat) : Int) = b + (addr - a) by omega]
    · rw [if_neg hc, if_neg (by omega)]; exact h.bytes addr t1 t2

theorem SimB.copy {G : GSt} {R : RSt} (h : SimB G R) (a b n : Nat) (ha : a + n ≤ G.mem.length) (hb : b + n ≤ G.mem.length) (hd : b + n ≤ a ∨ a + n ≤ b) (hr : ∀ j : Nat, j < n → R.tag ((b : Int) + j) ≠ -1 ∧ R.tag ((b : Int) + j) ≠ 15) : SimB ⟨G.st, G.rest, G.cs, copyTo G.mem a b n⟩ (R.copies a b n) := by
  have hsame := R.copies_same a b n
  refine h.write _ (copyTo_len _ _ _ _ ha hb) hsame.1 hsame.2.1 hsame.2.2.1 hsame.2.2.2.1 (h.marks.copies _ _ _) (fun i hi => ?_) (fun addr h16 t1 t2 => ?_)
  · rw [copyTo_len _ _ _ _ ha hb] at hi
    rw [copyTo_getD _ _ _ _ ha hb]
    split
    · exact h.mem _ (by omega)
    · exact h.mem i hi
  · rw [copyTo_getD _ _ _ _ ha hb, RSt.copies_byte R a b n (by omega)]
    by_cases hc : a ≤ addr.toNat ∧ addr.toNat < a + n
    · rw [if_pos hc, if_pos (by omega)]
      have e := hr (addr.toNat - a) (by omega)
      have e2 := h.bytes ((b : Int) + ((addr.toNat - a : Nat) : Int)) e.1 e.2
      rw [show ((b : Int) + ((addr.toNat - a : Nat) : Int)).toNat = b + (addr.toNat - a) by omega] at e2
      rw [e2, show (b : Int) + ((addr.toNat - a : Nat) : Int) = b + (addr - a) by omega]
    · rw [if_neg hc, if_neg (by omega)]; exact h.bytes addr t1 t2
end Go.Proofs.Ytjikemhmnkckcaa
