import Derived.Test.YtjikemhmnkckcaaJ40
import Derived.Test.YtjikemhmnkckcaaJ25
/- Both reports are the same. Plain mathematics. -/
namespace Go.Proofs.Ytjikemhmnkckcaa
open Go.RowKit

theorem ghad_iff2 (x : GSlot) (t : Int) : ghad x t = true ↔ x.state ≠ 2 ∧ x.tag = t := by
  unfold ghad
  rw [Bool.and_eq_true, bne_iff_ne, beq_iff_eq]
theorem gnear_eq2 (xs : List GSlot) (i tag : Int) : gnear xs i tag = nearAt xs (i - 1) tag ++ nearAt xs i tag ++ nearAt xs (i + 1) tag := by
  unfold gnear
  simp only [nearTo, List.nil_append]
  rw [show i - 1 + ((0 : Nat) : Int) = i - 1 by omega, show i - 1 + ((1 : Nat) : Int) = i by omega, show i - 1 + ((2 : Nat) : Int) = i + 1 by omega]

section
variable {G : GSt} {R : RSt}
theorem slot_alloc (hs : Sim G R) {k s : Nat} (hk : k < R.cls.length) (hsl : s < (Cf.sl R.cls k).toNat) : (slotOf G k s).alloc = (if Ref.state R.log k s = 2 then 0 else rAlloc R.log k s) ∧ (slotOf G k s).gone = (if Ref.state R.log k s = 2 then 0 else rGone R.log k s) := by
  have hx := hs.slots k s hk hsl
  unfold rAlloc rGone
  rcases state_of R.log k s with y | y | y
  · rw [hx.alloc, hx.gone, if_pos y.1, if_pos y.2, if_neg (by omega), if_pos y.1]; exact ⟨rfl, rfl⟩
  · rw [hx.alloc, hx.gone, if_neg (c := Ref.state R.log k s = 2) (by omega), if_neg (by omega), if_neg (c := Ref.state R.log k s = 4) (by omega), if_neg (c := Ref.state R.log k s = 2) (by omega), if_pos (by omega)]; exact ⟨rfl, rfl⟩
  · rw [hx.alloc, hx.gone, if_neg (c := Ref.state R.log k s = 2) (by omega), if_neg (by omega), if_pos y.1, if_neg (c := Ref.state R.log k s = 2) (by omega), if_neg (by omega)]; exact ⟨rfl, rfl⟩

/-- one slot's entry, as both find it -/
theorem nearAt_sim (hs : Sim G R) {k : Nat} (hk : k < R.cls.length) (s want : Int) (i : Nat) (hi : i < (Cf.sl R.cls k).toNat) (hd : (i : Int) - s < 2 ∧ s - (i : Int) < 2) : rNearAt R k s want i = nearAt (G.cs.getD k GCls.no).slots i want := by
  have hx := hs.slots k i hk hi
  have hl := hs.len hk
  have ha := slot_alloc hs hk hi
  unfold rNearAt nearAt
  rw [Int.toNat_natCast]
  have hg : (ghad ((G.cs.getD k GCls.no).slots.getD i GSlot.no) want = true) ↔ (Ref.state R.log k i ≠ 2 ∧ Ref.last R.log k i = want) := by
    have := ghad_iff2 (slotOf G k i) want
    rw [hx.st, hx.tag] at this
    exact this
  by_cases c : Ref.state R.log k i ≠ 2 ∧ Ref.last R.log k i = want
  · rw [if_pos ⟨c.1, c.2, hd.1, hd.2⟩, if_pos ⟨by omega, by omega, hg.2 c⟩]
    rw [if_neg c.1, if_neg c.1] at ha
    change _ = [((i : Int), (slotOf G k i).alloc, (slotOf G k i).gone)]
    rw [ha.1, ha.2]
  · rw [if_neg (fun y => c ⟨y.1, y.2.1⟩), if_neg (fun y => c (hg.1 y.2.2))]
theorem nearAt_out (xs : List GSlot) (j t : Int) (h : j < 0 ∨ (xs.length : Int) ≤ j) : nearAt xs j t = [] := by
  unfold nearAt; rw [if_neg (by omega)]
theorem rNearTo_sim (hs : Sim G R) {k : Nat} (hk : k < R.cls.length) (s : Nat) (want : Int) (m : Nat) (hm : m ≤ (Cf.sl R.cls k).toNat) :
    rNearTo R k s want m = (if (s : Int) - 1 < m then nearAt (G.cs.getD k GCls.no).slots ((s : Int) - 1) want else []) ++ (if (s : Int) < m then nearAt (G.cs.getD k GCls.no).slots s want else []) ++ (if (s : Int) + 1 < m then nearAt (G.cs.getD k GCls.no).slots ((s : Int) + 1) want else []) := by
  induction m with
  | zero =>
    by_cases c : (s : Int) - 1 < ((0 : Nat) : Int)
    · rw [if_pos c, if_neg (by omega), if_neg (by omega), nearAt_out _ _ _ (.inl (by omega))]; rfl
    · rw [if_neg c, if_neg (by omega), if_neg (by omega)]; rfl
  | succ m ih =>
    simp only [rNearTo]
    rw [ih (by omega)]
    by_cases c0 : (m : Int) + 1 < s
    · rw [if_neg (by omega), if_neg (by omega), if_neg (by omega), if_neg (by omega), if_neg (by omega), if_neg (by omega)]
      unfold rNearAt; rw [if_neg (fun y => by have := y.2.2.2; omega)]; rfl
    · by_cases c1 : (m : Int) + 1 = s
      · rw [if_neg (by omega), if_neg (by omega), if_neg (by omega), if_pos (by omega), if_neg (by omega), if_neg (by omega), nearAt_sim hs hk s want m (by omega) ⟨by omega, by omega⟩, show (s : Int) - 1 = (m : Int) by omega]
        simp
      · by_cases c2 : m = s
        · subst c2
          rw [if_pos (by omega), if_neg (by omega), if_neg (by omega), if_pos (by omega), if_pos (by omega), if_neg (by omega), nearAt_sim hs hk m want m (by omega) ⟨by omega, by omega⟩]
          simp
        · by_cases c3 : (m : Int) = s + 1
          · rw [if_pos (by omega), if_pos (by omega), if_neg (by omega), if_pos (by omega), if_pos (by omega), if_pos (by omega), nearAt_sim hs hk s want m (by omega) ⟨by omega, by omega⟩, show (m : Int) = (s : Int) + 1 from c3]
            simp
          · rw [if_pos (by omega), if_pos (by omega), if_pos (by omega), if_pos (by omega), if_pos (by omega), if_pos (by omega)]
            unfold rNearAt; rw [if_neg (fun y => by have := y.2.2.1; omega), List.append_nil]
theorem rNear_sim (hs : Sim G R) {k : Nat} (hk : k < R.cls.length) (s : Nat) (hsl : s < (Cf.sl R.cls k).toNat) (want : Int) : rNearTo R k s want (Cf.sl R.cls k).toNat = gnear (G.cs.getD k GCls.no).slots s want := by
  have hl := hs.len hk
  rw [rNearTo_sim hs hk s want _ (Nat.le_refl _), gnear_eq2, if_pos (by omega), if_pos (by omega)]
  by_cases c : (s : Int) + 1 < ((Cf.sl R.cls k).toNat : Int)
  · rw [if_pos c]
  · rw [if_neg c, nearAt_out _ ((s : Int) + 1) want (.inr (by omega))]

theorem lies_sim (hs : Sim G R) (er addr want : Int) : grpt G R.cls er addr want = rlies R er addr want := by
  have hv := hs.rok.conf
  unfold grpt rlies
  rw [hs.tag, hs.st]
  change (if _ then (⟨er, addr, want, R.tag addr, 1, 0, 0, 0, 0, []⟩ : Rpt) else if _ then ⟨er, addr, want, R.tag addr, 0, 0, 0, 0, 0, []⟩ else ⟨er, addr, want, R.tag addr, _, _, _, _, _, _⟩) = _
  by_cases hst : 16 ≤ addr ∧ addr < 16 * (1 + R.st)
  · have hsl := static_slot hv addr hst.2
    have h0 : R.tag addr = 0 := by unfold RSt.tag Cf.tag; rw [if_pos hst]
    rw [if_pos hst, hsl, if_pos (by decide), h0, if_pos rfl]
  · rw [if_neg hst]
    rcases Cf.slot_bd R.st R.cls addr with hsl | ⟨k, s, hsl, hk, hs2, _⟩
    · have h0 : R.tag addr = -1 := by unfold RSt.tag Cf.tag; rw [if_neg hst, hsl, if_pos (by decide)]
      rw [hsl, if_pos (by decide), if_pos (by decide), h0, if_neg (by decide)]
    · have hx := hs.slots k s hk hs2
      have ha := slot_alloc hs hk hs2
      rw [hsl, if_neg (by simp), if_neg (by simp)]
      simp only [Int.toNat_natCast]
      rw [hx.st, ha.1, ha.2, rNear_sim hs hk s hs2 want]
theorem explain_sim (hs : Sim G R) (q n : Int) : gexplain G R q n = rexplain R q n := by
  unfold gexplain rexplain
  rw [lies_sim hs]
theorem blame_sim (hs : Sim G R) (q : Int) : gblame G R q = rblame R q := by
  unfold gblame rblame
  rw [hs.block q, lies_sim hs]
end
end Go.Proofs.Ytjikemhmnkckcaa
/- A script played, over any kinds, by the contracts of step, looks and ends. -/
namespace Go.Proofs.Ytjikemhmnkckcaa
open Go.RowKit

/-- is the kind among these? -/
def hasKind (kk : List Int) (k : Int) : Bool := kk.contains k

set_option maxRecDepth 100000 in
set_option maxHeartbeats 800000 in
theorem in_gen (k : Int) (kk : List Int) (kb : Nat) (w : World) (hlen : kk.length ≤ 100) (hkb : kb < w.heap.size) (h : ∀ m, m < kk.length → w.cell? ⟨kb, m, none⟩ = some (.int .i64 (kk.getD m 0))) :
    Calls Try.prog 50 #[.int .i64 k, .slice (some ⟨kb, 0, none⟩) kk.length kk.length] w fun e w' => e = .returned (.bool (hasKind kk k)) ∧ Below w.heap.size w w' := by
  have HK := hide2 h
  clear h
  go_enter Try.func50, Try.ntmps50
  go_wp2
  go_loopw [5] (fun i wr => ∃ n : Nat, n ≤ kk.length ∧ i = .int .i64 (n : Int) ∧ Below w.heap.size w wr ∧ ∀ m, m < n → kk.getD m 0 ≠ k) (fun i _ => ((kk.length : Int) - intOf i).toNat)
  case atStart => exact ⟨0, by omega, rfl, Below.refl _ _, fun m hm => absurd hm (by omega)⟩
  case round =>
    obtain ⟨n, hn, rfl, hb, hall⟩ := hrel
    have HA := hide2 hall
    clear hall
    by_cases hlt : n < kk.length
    · have hl : (n : Int) < (kk.length : Int) := by omega
      have h0 : (0 : Int) ≤ (n : Int) := by omega
      have c := (hb.cell (p := ⟨kb, n, none⟩) hkb).trans (HK.out n hlt)
      have HIN : Hid (kk.getD n 0 ∈ kk) := by
        show _ ∈ _
        rw [List.getD_eq_getElem?_getD, List.getElem?_eq_getElem hlt]
        exact List.getElem_mem hlt
      by_cases hk : kk.getD n 0 = k
      · have hk2 : (kk.getD n 0 == k) = true := by rw [hk]; exact beq_self_eq_true k
        have HR : Hid (hasKind kk k = true) := by
          show kk.contains k = true
          rw [List.contains_iff_mem, ← hk]; exact HIN.out
        generalize kk.getD n 0 = y at *
        clear hk
        go_wp2
        go_ret
        exact ⟨by rw [HR.out]; rfl, hb⟩
      · have hk2 : (kk.getD n 0 == k) = false := by rw [beq_eq_false_iff_ne]; exact hk
        have HNN : Hid (∀ m, m < n + 1 → kk.getD m 0 ≠ k) := fun m hm => by
          by_cases e : m = n
          · rw [e]; exact hk
          · exact HA.out m (by omega)
        generalize kk.getD n 0 = y at *
        clear hk
        go_wp2
        go_roundw
        case rel => exact ⟨n + 1, by omega, rfl, hb, HNN.out⟩
        case measure => simp [intOf]; omega
    · have hl : ¬ (n : Int) < (kk.length : Int) := by omega
      have HR : Hid (hasKind kk k = false) := by
        show kk.contains k = false
        rw [← Bool.not_eq_true, List.contains_iff_mem]
        intro hm
        obtain ⟨i, hi, e⟩ := List.getElem_of_mem hm
        exact HA.out i (by omega) (by rw [List.getD_eq_getElem?_getD, List.getElem?_eq_getElem hi]; exact e)
      go_wp2
      go_ret
      exact ⟨by rw [HR.out]; rfl, hb⟩

/-- what a script's invariant I (world, the script's world, steps, blocks) must offer -/
structure Plays (I : World → Nat → Nat → (Nat → Prop) → Prop) (kk : List Int) (top : Nat) (bytes : Bool) : Prop where
  lt : ∀ {w q n F b}, I w q n F → F b → b < w.heap.size
  kept : ∀ {w w' q n F}, I w q n F → (∀ b, F b → w'.heap[b]? = w.heap[b]?) → I w' q n F
  more : ∀ {w q n m F}, I w q n F → n ≤ m → I w q m F
  step : ∀ (q n : Nat) (F : Nat → Prop) (o0 o1 o2 o3 o4 o5 o6 o7 o8 : Int) (w : World), I w q n F → n < top → hasKind kk o0 = true →
    (∀ x ∈ [o0, o1, o2, o3, o4, o5, o6, o7, o8], -9223372036854775808 ≤ x ∧ x ≤ 9223372036854775807) →
    Calls Try.prog 51 #[.pointer (some ⟨q, 0, none⟩), .agg #[.int .i64 o0, .int .i64 o1, .int .i64 o2, .int .i64 o3, .int .i64 o4, .int .i64 o5, .int .i64 o6, .int .i64 o7, .int .i64 o8]] w fun e w' => ∃ F', e = .returned (.bool true) ∧ I w' q (n + 1) F' ∧ Kept w w' F ∧ ∀ b, F' b → F b ∨ w.heap.size ≤ b
  looks : ∀ (q n : Nat) (F : Nat → Prop) (w : World), I w q n F → Calls Try.prog 52 #[.pointer (some ⟨q, 0, none⟩)] w fun e w' => e = .returned (.bool true) ∧ Below w.heap.size w w'
  ends : ∀ (q n : Nat) (F : Nat → Prop) (w : World), I w q n F → Calls Try.prog 53 #[.pointer (some ⟨q, 0, none⟩), .bool bytes] w fun e w' => e = .returned (.bool true) ∧ Below w.heap.size w w'
  start : ∀ {w : World} {q ph : Nat} {gc : Value} {bb : Nat} {G : GSt} {pr : Nat} {vc : Value} {st rest : Int} {cls : List (Int × Int)}, Cf.Valid st rest cls → WRep w q ph gc bb G pr vc (.slice none 0 0) (.slice none 0 0) ⟨st, rest, cls, [], []⟩ (.slice none 0 0) [] (.slice none 0 0) → (∀ i, G.mem.getD i 0 = 0) →
    I w q 0 (WFoot q ph gc bb G pr vc (.slice none 0 0) (.slice none 0 0) (.slice none 0 0))

/-- two script's worlds between the steps -/
structure Two2 (I : World → Nat → Nat → (Nat → Prop) → Prop) (w wr : World) (q1 q2 n : Nat) : Prop where
  two : ∃ F1 F2, I wr q1 n F1 ∧ I wr q2 n F2 ∧ (∀ b, F1 b → ¬ F2 b) ∧ (∀ b, F1 b → w.heap.size ≤ b) ∧ (∀ b, F2 b → w.heap.size ≤ b)
  bel : Below w.heap.size w wr
section
variable {I : World → Nat → Nat → (Nat → Prop) → Prop} {kk : List Int} {top : Nat} {bytes : Bool} (P : Plays I kk top bytes)
include P
theorem Plays.one {w wr w' : World} {q1 q2 n : Nat} {F1 F2 F' : Nat → Prop} (h2 : I wr q2 n F2) (hd : ∀ b, F1 b → ¬ F2 b) (l1 : ∀ b, F1 b → w.heap.size ≤ b) (l2 : ∀ b, F2 b → w.heap.size ≤ b) (hb : Below w.heap.size w wr)
    (g1 : I w' q1 (n + 1) F') (gk : Kept wr w' F1) (gn : ∀ b, F' b → F1 b ∨ wr.heap.size ≤ b) : Two2 I w w' q1 q2 (n + 1) := by
  have hs := hb.size
  refine ⟨⟨F', F2, g1, P.more (P.kept h2 fun b hx => gk.block b (P.lt h2 hx) (fun x => hd b x hx)) (by omega), ?_, ?_, l2⟩, hb.trans (gk.to_below hs l1)⟩
  · intro b x y
    rcases gn b x with x | x
    · exact hd b x y
    · have := P.lt h2 y; omega
  · intro b x
    rcases gn b x with x | x
    · exact l1 b x
    · omega
theorem Plays.other {w wr w' : World} {q1 q2 n : Nat} {F1 F2 F' : Nat → Prop} (h1 : I wr q1 n F1) (hd : ∀ b, F1 b → ¬ F2 b) (l1 : ∀ b, F1 b → w.heap.size ≤ b) (l2 : ∀ b, F2 b → w.heap.size ≤ b) (hb : Below w.heap.size w wr)
    (g1 : I w' q2 (n + 1) F') (gk : Kept wr w' F2) (gn : ∀ b, F' b → F2 b ∨ wr.heap.size ≤ b) : Two2 I w w' q1 q2 (n + 1) := by
  have hs := hb.size
  refine ⟨⟨F1, F', P.more (P.kept h1 fun b hx => gk.block b (P.lt h1 hx) (fun x => hd b hx x)) (by omega), g1, ?_, l1, ?_⟩, hb.trans (gk.to_below hs l2)⟩
  · intro b x y
    rcases gn b y with y | y
    · exact hd b x y
    · have := P.lt h1 x; omega
  · intro b x
    rcases gn b x with x | x
    · exact l2 b x
    · omega
theorem Plays.below {w wr w' : World} {q1 q2 n : Nat} (h : Two2 I w wr q1 q2 n) (hb : Below wr.heap.size wr w') : Two2 I w w' q1 q2 n := by
  obtain ⟨⟨F1, F2, h1, h2, hd, l1, l2⟩, hbel⟩ := h
  exact ⟨⟨F1, F2, P.kept h1 (fun b hf => hb.block b (P.lt h1 hf)), P.kept h2 (fun b hf => hb.block b (P.lt h2 hf)), hd, l1, l2⟩, hbel.trans (hb.mono hbel.size)⟩
theorem Plays.more2 {w wr : World} {q1 q2 n : Nat} (h : Two2 I w wr q1 q2 n) : Two2 I w wr q1 q2 (n + 1) := by
  obtain ⟨⟨F1, F2, h1, h2, hd, l1, l2⟩, hbel⟩ := h
  exact ⟨⟨F1, F2, P.more h1 (by omega), P.more h2 (by omega), hd, l1, l2⟩, hbel⟩

end

set_option maxRecDepth 100000 in
set_option maxHeartbeats 800000 in
theorem plays_no2 (bytes : Bool) (st rest : Int) (a : Option Addr) (cap : Nat) (cls : List (Int × Int)) (vs vk : Value) (w : World) (h : CRow w a cap cls) (hreach : cls.length * 16 ≤ 140737488351232) (hv : Cf.validB st rest cls = false) :
    Calls Try.prog 21 #[.agg #[.int .i64 st, .int .i64 rest, .slice a cls.length cap], vs, vk, .bool bytes] w fun e w' => e = .returned (.bool true) ∧ Below w.heap.size w w' := by
  have HC := hide2 h
  have HV := hide2 hv
  clear h hv
  go_enter Try.func21, Try.ntmps21
  go_wp2_with (go_at_call 15; refine (begin_no st rest a cap cls _ (HC.out.below ((Below.refl _ _).alloc (Nat.le_refl _) _)) hreach HV.out).mono ?_; rintro e w1 ⟨rfl, hb1⟩)
  go_ret
  exact ⟨rfl, ((Below.refl _ _).alloc (Nat.le_refl _) _).trans (hb1.mono (by simp))⟩

set_option maxRecDepth 100000 in
set_option maxHeartbeats 1600000 in
theorem Plays.yes {I : World → Nat → Nat → (Nat → Prop) → Prop} {kk : List Int} {top : Nat} {bytes : Bool} (P : Plays I kk top bytes) (hkl : kk.length ≤ 100) (st rest : Int) (a : Option Addr) (cap : Nat) (cls : List (Int × Int)) (sa : Option Addr) (slen scap : Nat) (v : Nat → Nat → Int) (kb : Nat) (w : World) (h : CRow w a cap cls) (hreach : cls.length * 16 ≤ 140737488351232) (hv : Cf.Valid st rest cls)
    (hs : SRow w sa slen scap v) (hst : slen ≤ top) (hkb : kb < w.heap.size) (hk : ∀ m, m < kk.length → w.cell? ⟨kb, m, none⟩ = some (.int .i64 (kk.getD m 0))) :
    Calls Try.prog 21 #[.agg #[.int .i64 st, .int .i64 rest, .slice a cls.length cap], .slice sa slen scap, .slice (some ⟨kb, 0, none⟩) kk.length kk.length, .bool bytes] w fun e w' => e = .returned (.bool true) ∧ Below w.heap.size w w' := by
  have HC := hide2 h
  have HV := hide2 hv
  have HS := hide2 hs
  have HK := hide2 hk
  have hmax := hs.cap
  have hcap := hs.len
  unfold maxLen at hmax
  have HP := hide2 P
  clear P
  clear h hv hs hk
  go_enter Try.func21, Try.ntmps21
  go_wp2_with fail
  refine (begin_yes2 st rest a cap cls _ (HC.out.below ((Below.refl _ _).alloc (Nat.le_refl _) _)) hreach HV.out).mono ?_
  rintro e w1 ⟨q1, ph1, gc1, bb1, G1, pr1, vc1, rfl, hW1, hb1, hf1, hz1⟩
  have hw1 : Below w.heap.size w w1 := ((Below.refl _ _).alloc (Nat.le_refl _) _).trans (hb1.mono (by simp))
  have x0 := (hb1.cell (p := ⟨w.heap.size, 0, none⟩) (by simp)).trans (World.cell?_alloc_new _ _ _ _)
  have x1 := (hb1.cell (p := ⟨w.heap.size, 1, none⟩) (by simp)).trans (World.cell?_alloc_new _ _ _ _)
  have x2 := (hb1.cell (p := ⟨w.heap.size, 2, none⟩) (by simp)).trans (World.cell?_alloc_new _ _ _ _)
  have HW1 := hide2 hW1
  have HZ1 := hide2 hz1
  clear hz1
  have HF1 : Hid (∀ b, WFoot q1 ph1 gc1 bb1 G1 pr1 vc1 (.slice none 0 0) (.slice none 0 0) (.slice none 0 0) b → w.heap.size ≤ b) := fun b hb => by have := hf1 b hb; simp at this; omega
  clear hW1 hf1 hb1
  go_wp2_with fail
  refine (begin_yes2 st rest a cap cls _ (HC.out.below hw1) hreach HV.out).mono ?_
  rintro e w2 ⟨q2, ph2, gc2, bb2, G2, pr2, vc2, rfl, hW2, hb2, hf2, hz2⟩
  have hw2 : Below w.heap.size w w2 := hw1.trans (hb2.mono hw1.size)
  have HT : Hid (Two2 I w w2 q1 q2 0) := ⟨⟨_, _, HP.out.start HV.out (HW1.out.below hb2) HZ1.out, HP.out.start HV.out hW2 hz2, fun b x y => by have := HW1.out.foot_lt x; have := hf2 b y; omega, HF1.out, fun b y => by have := hf2 b y; have := hw1.size; omega⟩, hw2⟩
  clear hW2 hf2 hb2 x0 x1 x2 hz2 HZ1
  go_wp2
  have HT0 := HT
  clear HT HW1 HF1 hw1 hw2
  go_loopw [12] (fun i wr => ∃ n : Nat, n ≤ slen ∧ i = .int .i64 (n : Int) ∧ Two2 I w wr q1 q2 n) (fun i _ => ((slen : Int) - intOf i).toNat)
  case atStart => exact ⟨0, by omega, rfl, HT0.out⟩
  case round =>
    obtain ⟨n, hn, rfl, hT⟩ := hrel
    have HT := hide2 hT
    clear hT
    have HKr : Hid (∀ m, m < kk.length → wr.cell? ⟨kb, m, none⟩ = some (.int .i64 (kk.getD m 0))) := fun m hm => (HT.out.bel.cell (p := ⟨kb, m, none⟩) hkb).trans (HK.out m hm)
    by_cases hlt : n < slen
    · have hl : (n : Int) < (slen : Int) := by omega
      have h0 : (0 : Int) ≤ (n : Int) := by omega
      obtain ⟨g, off, hsa, hgl, hcell⟩ := HS.out.cells (by omega)
      subst hsa
      have e0 : wr.cell? ⟨g, off + n * 9, none⟩ = some (.int .i64 (v n 0)) := (HT.out.bel.cell (p := ⟨g, off + n * 9, none⟩) hgl).trans (hcell n hlt 0 (by omega))
      have e1 := (HT.out.bel.cell (p := ⟨g, off + n * 9 + 1, none⟩) hgl).trans (hcell n hlt 1 (by omega))
      have e2 := (HT.out.bel.cell (p := ⟨g, off + n * 9 + 2, none⟩) hgl).trans (hcell n hlt 2 (by omega))
      have e3 := (HT.out.bel.cell (p := ⟨g, off + n * 9 + 3, none⟩) hgl).trans (hcell n hlt 3 (by omega))
      have e4 := (HT.out.bel.cell (p := ⟨g, off + n * 9 + 4, none⟩) hgl).trans (hcell n hlt 4 (by omega))
      have e5 := (HT.out.bel.cell (p := ⟨g, off + n * 9 + 5, none⟩) hgl).trans (hcell n hlt 5 (by omega))
      have e6 := (HT.out.bel.cell (p := ⟨g, off + n * 9 + 6, none⟩) hgl).trans (hcell n hlt 6 (by omega))
      have e7 := (HT.out.bel.cell (p := ⟨g, off + n * 9 + 7, none⟩) hgl).trans (hcell n hlt 7 (by omega))
      have e8 := (HT.out.bel.cell (p := ⟨g, off + n * 9 + 8, none⟩) hgl).trans (hcell n hlt 8 (by omega))
      have B0 := HS.out.bd n hlt 0 (by omega)
      have B1 := HS.out.bd n hlt 1 (by omega)
      have B2 := HS.out.bd n hlt 2 (by omega)
      have B3 := HS.out.bd n hlt 3 (by omega)
      have B4 := HS.out.bd n hlt 4 (by omega)
      have B5 := HS.out.bd n hlt 5 (by omega)
      have B6 := HS.out.bd n hlt 6 (by omega)
      have B7 := HS.out.bd n hlt 7 (by omega)
      have B8 := HS.out.bd n hlt 8 (by omega)
      generalize v n 0 = o0 at *
      generalize v n 1 = o1 at *
      generalize v n 2 = o2 at *
      generalize v n 3 = o3 at *
      generalize v n 4 = o4 at *
      generalize v n 5 = o5 at *
      generalize v n 6 = o6 at *
      generalize v n 7 = o7 at *
      generalize v n 8 = o8 at *
      have HBD : Hid (∀ x ∈ [o0, o1, o2, o3, o4, o5, o6, o7, o8], -9223372036854775808 ≤ x ∧ x ≤ 9223372036854775807) := by
        intro x hx
        simp only [List.mem_cons, List.not_mem_nil, or_false] at hx
        rcases hx with rfl | rfl | rfl | rfl | rfl | rfl | rfl | rfl | rfl <;> assumption
      clear hcell B0 B1 B2 B3 B4 B5 B6 B7 B8
      go_wp2_with fail
      refine (in_gen o0 kk kb wr hkl (Nat.lt_of_lt_of_le hkb HT.out.bel.size) HKr.out).mono ?_
      rintro e w3 ⟨rfl, hb3⟩
      cases hik : hasKind kk o0
      · have HT3 := hide2 (HP.out.below HT.out hb3)
        go_wp2
        go_roundw
        case rel => exact ⟨n + 1, by omega, rfl, HP.out.more2 HT3.out⟩
        case measure => simp [intOf]; omega
      · have hgr : g < wr.heap.size := Nat.lt_of_lt_of_le hgl HT.out.bel.size
        have f0 := (hb3.cell (p := ⟨g, off + n * 9, none⟩) hgr).trans e0
        have f1 := (hb3.cell (p := ⟨g, off + n * 9 + 1, none⟩) hgr).trans e1
        have f2 := (hb3.cell (p := ⟨g, off + n * 9 + 2, none⟩) hgr).trans e2
        have f3 := (hb3.cell (p := ⟨g, off + n * 9 + 3, none⟩) hgr).trans e3
        have f4 := (hb3.cell (p := ⟨g, off + n * 9 + 4, none⟩) hgr).trans e4
        have f5 := (hb3.cell (p := ⟨g, off + n * 9 + 5, none⟩) hgr).trans e5
        have f6 := (hb3.cell (p := ⟨g, off + n * 9 + 6, none⟩) hgr).trans e6
        have f7 := (hb3.cell (p := ⟨g, off + n * 9 + 7, none⟩) hgr).trans e7
        have f8 := (hb3.cell (p := ⟨g, off + n * 9 + 8, none⟩) hgr).trans e8
        have HT3 := hide2 (HP.out.below HT.out hb3)
        have HKI := hide2 hik
        clear e0 e1 e2 e3 e4 e5 e6 e7 e8 hik
        obtain ⟨F1, F2, I1, I2, hd, l1, l2⟩ := HT3.out.two
        have HI1 := hide2 I1
        have HI2 := hide2 I2
        have HD := hide2 hd
        have HL1 := hide2 l1
        have HL2 := hide2 l2
        clear I1 I2 hd l1 l2
        go_wp2_with fail
        · refine (HP.out.step q1 n F1 o0 o1 o2 o3 o4 o5 o6 o7 o8 w3 HI1.out (by omega) HKI.out HBD.out).mono ?_
          rintro e w4 ⟨F', rfl, g1, gk, gn⟩
          have HT4 : Hid (Two2 I w w4 q1 q2 (n + 1)) := HP.out.one HI2.out HD.out HL1.out HL2.out HT3.out.bel g1 gk gn
          clear g1 gk gn f0 f1 f2 f3 f4 f5 f6 f7 f8
          obtain ⟨E1, E2, J1, J2, _⟩ := HT4.out.two
          have HJ1 := hide2 J1
          have HJ2 := hide2 J2
          clear J1 J2
          go_wp2_with fail
          refine (HP.out.looks q1 (n + 1) E1 w4 HJ1.out).mono ?_
          rintro e w5 ⟨rfl, hb5⟩
          go_wp2_with fail
          refine (HP.out.looks q2 (n + 1) E2 w5 (HP.out.kept HJ2.out (fun b hf => hb5.block b (HP.out.lt HJ2.out hf)))).mono ?_
          rintro e w6 ⟨rfl, hb6⟩
          have HT6 := hide2 (HP.out.below (HP.out.below HT4.out hb5) hb6)
          go_wp2
          go_roundw
          case rel => exact ⟨n + 1, by omega, rfl, HT6.out⟩
          case measure => simp [intOf]; omega
        · refine (HP.out.step q2 n F2 o0 o1 o2 o3 o4 o5 o6 o7 o8 w3 HI2.out (by omega) HKI.out HBD.out).mono ?_
          rintro e w4 ⟨F', rfl, g1, gk, gn⟩
          have HT4 : Hid (Two2 I w w4 q1 q2 (n + 1)) := HP.out.other HI1.out HD.out HL1.out HL2.out HT3.out.bel g1 gk gn
          clear g1 gk gn f0 f1 f2 f3 f4 f5 f6 f7 f8
          obtain ⟨E1, E2, J1, J2, _⟩ := HT4.out.two
          have HJ1 := hide2 J1
          have HJ2 := hide2 J2
          clear J1 J2
          go_wp2_with fail
          refine (HP.out.looks q1 (n + 1) E1 w4 HJ1.out).mono ?_
          rintro e w5 ⟨rfl, hb5⟩
          go_wp2_with fail
          refine (HP.out.looks q2 (n + 1) E2 w5 (HP.out.kept HJ2.out (fun b hf => hb5.block b (HP.out.lt HJ2.out hf)))).mono ?_
          rintro e w6 ⟨rfl, hb6⟩
          have HT6 := hide2 (HP.out.below (HP.out.below HT4.out hb5) hb6)
          go_wp2
          go_roundw
          case rel => exact ⟨n + 1, by omega, rfl, HT6.out⟩
          case measure => simp [intOf]; omega
    · have hl : ¬ (n : Int) < (slen : Int) := by omega
      obtain ⟨F1, F2, I1, I2, _⟩ := HT.out.two
      have HI1 := hide2 I1
      have HI2 := hide2 I2
      have HB := hide2 HT.out.bel
      clear I1 I2
      go_wp2_with fail
      refine (HP.out.ends q1 n F1 wr HI1.out).mono ?_
      rintro e w3 ⟨rfl, hb3⟩
      go_wp2_with fail
      refine (HP.out.ends q2 n F2 w3 (HP.out.kept HI2.out (fun b hf => hb3.block b (HP.out.lt HI2.out hf)))).mono ?_
      rintro e w4 ⟨rfl, hb4⟩
      go_wp2
      go_ret
      exact ⟨rfl, (HB.out.trans (hb3.mono HB.out.size)).trans (hb4.mono (Nat.le_trans HB.out.size hb3.size))⟩
end Go.Proofs.Ytjikemhmnkckcaa
