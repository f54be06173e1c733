import Derived.Test.YtjikemhmnkckcaaJ23
import Derived.Test.YtjikemhmnkckcaaJ31
/- The book (granulekeep.Book) in memory. -/
namespace Go.Proofs.Ytjikemhmnkckcaa
open Go.RowKit

structure KBlk where
  p : Int
  k : Int
  s : Int
  want : List Int
  wb : Nat
  live : Bool
  site : Int
  gone : Int
def KBlk.no : KBlk := ⟨0, 0, 0, [], 0, false, 0, 0⟩
def kblkCells (x : KBlk) : List Value := [.int .i64 x.p, .int .i64 x.k, .int .i64 x.s, .slice (some ⟨x.wb, 0, none⟩) x.want.length x.want.length, .bool x.live, .int .i64 x.site, .int .i64 x.gone]
def spotCells (x : Int × Int) : List Value := [.int .i64 x.1, .int .i64 x.2]
def spotNo : Int × Int := (0, 0)

structure KSt where
  st : Int
  rest : Int
  cls : List (Int × Int)
  L : List KBlk
  F : List (Int × Int)
  now : Int

def KBlk.off (x : KBlk) (now : Int) : KBlk := ⟨x.p, x.k, x.s, x.want, x.wb, false, x.site, now⟩
def kleft (B : KSt) (i : Nat) : KSt := ⟨B.st, B.rest, B.cls, B.L.set i ((B.L.getD i KBlk.no).off B.now), B.F ++ [((B.L.getD i KBlk.no).k, (B.L.getD i KBlk.no).s)], B.now⟩

/-- the book's own blocks: who is who -/
structure KSep (col : Nat → Nat) (pb ph : Nat) (gc : Value) (bb : Nat) (G : GSt) (vc vL vF : Value) (L : List KBlk) : Prop where
  pb : col pb = 0
  vc : ∀ b, vc.ownBlock = some b → col b = 1
  g : ∀ b, GFoot ph gc bb G b → col b = 2
  vL : ∀ b, vL.ownBlock = some b → col b = 3
  vF : ∀ b, vF.ownBlock = some b → col b = 4
  want : ∀ i, i < L.length → col (L.getD i KBlk.no).wb = 5 + i

def KFoot (pb ph : Nat) (gc : Value) (bb : Nat) (G : GSt) (vc vL vF : Value) (L : List KBlk) (b : Nat) : Prop :=
  b = pb ∨ vc.ownBlock = some b ∨ GFoot ph gc bb G b ∨ vL.ownBlock = some b ∨ vF.ownBlock = some b ∨ ∃ i, i < L.length ∧ b = (L.getD i KBlk.no).wb

structure KRep (w : World) (pb ph : Nat) (gc : Value) (bb : Nat) (G : GSt) (vc vL vF : Value) (B : KSt) : Prop where
  blk : Blk w pb 51 [.int .i64 B.st, .int .i64 B.rest, vc, .pointer (some ⟨ph, 0, none⟩), vL, vF, .int .i64 B.now]
  cls : w.ownsRow 0 67 2 vc B.cls.length (B.cls.flatMap clsCells)
  heap : GRep w ph gc bb G
  L : w.ownsRow 0 53 7 vL B.L.length (B.L.flatMap kblkCells)
  F : w.ownsRow 0 129 2 vF B.F.length (B.F.flatMap spotCells)
  want : ∀ i, i < B.L.length → Blk w (B.L.getD i KBlk.no).wb 3 ((B.L.getD i KBlk.no).want.map (Value.int .i64))
  sep : ∃ col, KSep col pb ph gc bb G vc vL vF B.L

section
variable {w w' : World} {pb ph : Nat} {gc : Value} {bb : Nat} {G G' : GSt} {vc vL vF : Value} {B : KSt}
theorem KRep.foot_lt (h : KRep w pb ph gc bb G vc vL vF B) {b : Nat} (hb : KFoot pb ph gc bb G vc vL vF B.L b) : b < w.heap.size := by
  rcases hb with rfl | hb | hb | hb | hb | ⟨i, hi, rfl⟩
  · exact h.blk.lt
  · exact row_lt h.cls hb
  · exact h.heap.foot_lt hb
  · exact row_lt h.L hb
  · exact row_lt h.F hb
  · exact (h.want i hi).lt
theorem KRep.kept (h : KRep w pb ph gc bb G vc vL vF B) (hk : ∀ b, KFoot pb ph gc bb G vc vL vF B.L b → w'.heap[b]? = w.heap[b]?) : KRep w' pb ph gc bb G vc vL vF B :=
  ⟨(hk pb (.inl rfl)).trans h.blk, row_kept h.cls (fun g hg => hk g (.inr (.inl hg))), h.heap.kept (fun b hb => hk b (.inr (.inr (.inl hb)))), row_kept h.L (fun g hg => hk g (.inr (.inr (.inr (.inl hg))))),
    row_kept h.F (fun g hg => hk g (.inr (.inr (.inr (.inr (.inl hg)))))), fun i hi => (hk _ (.inr (.inr (.inr (.inr (.inr ⟨i, hi, rfl⟩)))))).trans (h.want i hi), h.sep⟩
theorem KRep.below (h : KRep w pb ph gc bb G vc vL vF B) (hb : Below w.heap.size w w') : KRep w' pb ph gc bb G vc vL vF B := h.kept fun b hf => hb.block b (h.foot_lt hf)
theorem KRep.crow (h : KRep w pb ph gc bb G vc vL vF B) : ∃ a cap, vc = .slice a B.cls.length cap ∧ CRow w a cap B.cls := CRow.of_row h.cls
/-- the heap goes on, the rest stays -/
theorem KRep.goes (h : KRep w pb ph gc bb G vc vL vF B) (hG : GRep w' ph gc bb G') (hf : ∀ b, GFoot ph gc bb G' b ↔ GFoot ph gc bb G b) (k : Kept w w' (GFoot ph gc bb G)) : KRep w' pb ph gc bb G' vc vL vF B := by
  obtain ⟨col, hs⟩ := h.sep
  have no : ∀ b, col b ≠ 2 → ¬ GFoot ph gc bb G b := fun b hb hg => hb (hs.g b hg)
  refine ⟨(k.block pb h.blk.lt (no pb (by rw [hs.pb]; decide))).trans h.blk, row_kept h.cls (fun g hg => k.block g (row_lt h.cls hg) (no g (by rw [hs.vc g hg]; decide))), hG,
    row_kept h.L (fun g hg => k.block g (row_lt h.L hg) (no g (by rw [hs.vL g hg]; decide))), row_kept h.F (fun g hg => k.block g (row_lt h.F hg) (no g (by rw [hs.vF g hg]; decide))),
    fun i hi => (k.block _ (h.want i hi).lt (no _ (by rw [hs.want i hi]; omega))).trans (h.want i hi), col, ?_⟩
  exact ⟨hs.pb, hs.vc, fun b hb => hs.g b ((hf b).1 hb), hs.vL, hs.vF, hs.want⟩
end

/-- a block's cells -/
theorem kblk_cells {w : World} {g : Nat} {L : List KBlk} (hc : ∀ j u, (L.flatMap kblkCells)[j]? = some u → w.cell? ⟨g, j, none⟩ = some u) (i : Nat) (hi : i < L.length) :
    w.cell? ⟨g, i * 7, none⟩ = some (.int .i64 (L.getD i KBlk.no).p) ∧ w.cell? ⟨g, i * 7 + 1, none⟩ = some (.int .i64 (L.getD i KBlk.no).k) ∧ w.cell? ⟨g, i * 7 + 2, none⟩ = some (.int .i64 (L.getD i KBlk.no).s) ∧
    w.cell? ⟨g, i * 7 + 3, none⟩ = some (.slice (some ⟨(L.getD i KBlk.no).wb, 0, none⟩) (L.getD i KBlk.no).want.length (L.getD i KBlk.no).want.length) ∧ w.cell? ⟨g, i * 7 + 4, none⟩ = some (.bool (L.getD i KBlk.no).live) ∧
    w.cell? ⟨g, i * 7 + 5, none⟩ = some (.int .i64 (L.getD i KBlk.no).site) ∧ w.cell? ⟨g, i * 7 + 6, none⟩ = some (.int .i64 (L.getD i KBlk.no).gone) := by
  have h6 : ∀ j, j < 7 → (L.flatMap kblkCells)[i * 7 + j]? = (kblkCells (L.getD i KBlk.no))[j]? := fun j hj => by
    rw [flat_get kblkCells 7 (fun _ => rfl) L i j hj, List.getElem?_eq_getElem hi]
    simp [List.getD_eq_getElem?_getD, List.getElem?_eq_getElem hi]
  have hx := fun j (hj : j < 7) u hu => hc (i * 7 + j) u (by rw [h6 j hj]; exact hu)
  exact ⟨hx 0 (by omega) _ rfl, hx 1 (by omega) _ rfl, hx 2 (by omega) _ rfl, hx 3 (by omega) _ rfl, hx 4 (by omega) _ rfl, hx 5 (by omega) _ rfl, hx 6 (by omega) _ rfl⟩
theorem spot_cells {w : World} {g : Nat} {F : List (Int × Int)} (hc : ∀ j u, (F.flatMap spotCells)[j]? = some u → w.cell? ⟨g, j, none⟩ = some u) (i : Nat) (hi : i < F.length) :
    w.cell? ⟨g, i * 2, none⟩ = some (.int .i64 (F.getD i spotNo).1) ∧ w.cell? ⟨g, i * 2 + 1, none⟩ = some (.int .i64 (F.getD i spotNo).2) := by
  have h6 : ∀ j, j < 2 → (F.flatMap spotCells)[i * 2 + j]? = (spotCells (F.getD i spotNo))[j]? := fun j hj => by
    rw [flat_get spotCells 2 (fun _ => rfl) F i j hj, List.getElem?_eq_getElem hi]
    simp [List.getD_eq_getElem?_getD, List.getElem?_eq_getElem hi]
  have hx := fun j (hj : j < 2) u hu => hc (i * 2 + j) u (by rw [h6 j hj]; exact hu)
  exact ⟨hx 0 (by omega) _ rfl, hx 1 (by omega) _ rfl⟩

/-- is there a live block in the slot, among the first m? -/
def kliveTo (L : List KBlk) (k s : Int) : Nat → Bool
  | 0 => false
  | m + 1 => kliveTo L k s m || ((L.getD m KBlk.no).live && (L.getD m KBlk.no).k == k && (L.getD m KBlk.no).s == s)
def klive (L : List KBlk) (k s : Int) : Bool := kliveTo L k s L.length
theorem kliveTo_yes {L : List KBlk} {k s : Int} {m n : Nat} (hm : m < n) (h : ((L.getD m KBlk.no).live && (L.getD m KBlk.no).k == k && (L.getD m KBlk.no).s == s) = true) : kliveTo L k s n = true := by
  induction n with
  | zero => omega
  | succ n ih =>
    simp only [kliveTo]
    by_cases e : m = n
    · subst e; rw [h]; simp
    · rw [ih (by omega)]; rfl

set_option maxRecDepth 100000 in
set_option maxHeartbeats 1600000 in
theorem klive_any (pb : Nat) (x0 x1 x2 x3 vL x5 x6 : Value) (L : List KBlk) (k s : Int) (w : World) (hB : Blk w pb 51 [x0, x1, x2, x3, vL, x5, x6]) (hL : w.ownsRow 0 53 7 vL L.length (L.flatMap kblkCells)) :
    Calls Try.prog 67 #[.pointer (some ⟨pb, 0, none⟩), .int .i64 k, .int .i64 s] w fun e w' => e = .returned (.bool (klive L k s)) ∧ Below w.heap.size w w' := by
  have c4 := hB.cell (j := 4) rfl
  have hpb := hB.lt
  obtain ⟨a, cap, rfl, hcap, hmax, hrow⟩ := row_open hL
  unfold maxLen at hmax
  have HROW := hide2 hrow
  clear hB hL hrow
  go_enter Try.func67, Try.ntmps67
  go_wp2
  go_loopw [7] (fun i wr => ∃ m : Nat, m ≤ L.length ∧ i = .int .i64 (m : Int) ∧ Hid (kliveTo L k s m = false) ∧ Below w.heap.size w wr) (fun i _ => L.length - (intOf i).toNat)
  case atStart => exact ⟨0, by omega, rfl, rfl, Below.refl _ _⟩
  case round =>
    obtain ⟨m, hm, rfl, hno, hb⟩ := hrel
    have c4' := (hb.cell (p := ⟨pb, 4, none⟩) hpb).trans c4
    by_cases hlt : m < L.length
    · obtain ⟨g, rfl, hgl, hcell, _⟩ := HROW.out (by omega)
      obtain ⟨_, d1, d2, _, d4, _, _⟩ := kblk_cells hcell m hlt
      have d1' := (hb.cell (p := ⟨g, m * 7 + 1, none⟩) hgl).trans d1
      have d2' := (hb.cell (p := ⟨g, m * 7 + 2, none⟩) hgl).trans d2
      have d4' := (hb.cell (p := ⟨g, m * 7 + 4, none⟩) hgl).trans d4
      have hI : (m : Int) < (L.length : Int) := by omega
      have hst : Hid (kliveTo L k s (m + 1) = (kliveTo L k s m || ((L.getD m KBlk.no).live && (L.getD m KBlk.no).k == k && (L.getD m KBlk.no).s == s))) := rfl
      have hyes : Hid (((L.getD m KBlk.no).live && (L.getD m KBlk.no).k == k && (L.getD m KBlk.no).s == s) = true → klive L k s = true) := fun h => kliveTo_yes hlt h
      clear hcell d1 d2 d4
      generalize (L.getD m KBlk.no).live = xl at *
      generalize (L.getD m KBlk.no).k = xk at *
      generalize (L.getD m KBlk.no).s = xs at *
      cases xl
      · go_wp2
        go_roundw
        case rel => exact ⟨m + 1, by omega, by go_num, by show _ = _; rw [hst.out, hno.out]; rfl, hb⟩
        case measure => simp [intOf]; omega
      · by_cases hk : xk = k
        · by_cases hs : xs = s
          · have hkb : (xk == k) = true := by simp [hk]
            have hsb : (xs == s) = true := by simp [hs]
            have HY := hide2 (hyes.out (by rw [hkb, hsb]; rfl))
            clear hk hs hyes hst
            go_wp2
            go_ret
            exact ⟨by rw [HY.out]; rfl, hb⟩
          · have hkb : (xk == k) = true := by simp [hk]
            have hsb : (xs == s) = false := by simp [hs]
            have HN : Hid (kliveTo L k s (m + 1) = false) := by show _ = _; rw [hst.out, hno.out, hkb, hsb]; rfl
            clear hk hs hyes hst
            go_wp2
            go_roundw
            case rel => exact ⟨m + 1, by omega, by go_num, HN, hb⟩
            case measure => simp [intOf]; omega
        · have hkb : (xk == k) = false := by simp [hk]
          have HN : Hid (kliveTo L k s (m + 1) = false) := by show _ = _; rw [hst.out, hno.out, hkb]; rfl
          clear hk hyes hst
          go_wp2
          go_roundw
          case rel => exact ⟨m + 1, by omega, by go_num, HN, hb⟩
          case measure => simp [intOf]; omega
    · obtain rfl : m = L.length := by omega
      go_wp2
      go_ret
      exact ⟨by rw [show klive L k s = false from hno.out]; rfl, hb⟩
end Go.Proofs.Ytjikemhmnkckcaa
/- The book's questions: rests, full, expect. -/
namespace Go.Proofs.Ytjikemhmnkckcaa
open Go.RowKit

/-- looking back from the free m on, n frees of the class were met: does the slot rest? -/
def krestTo (F : List (Int × Int)) (rest k s : Int) : Nat → Int → Bool
  | 0, _ => false
  | m + 1, n => if n < rest then (if (F.getD m spotNo).1 = k then (if (F.getD m spotNo).2 = s then true else krestTo F rest k s m (n + 1)) else krestTo F rest k s m n) else false
def krests (F : List (Int × Int)) (rest k s : Int) : Bool := krestTo F rest k s F.length 0

set_option maxRecDepth 100000 in
set_option maxHeartbeats 1600000 in
theorem krests_any (pb : Nat) (x0 x2 x3 x4 vF x6 : Value) (rest : Int) (F : List (Int × Int)) (k s : Int) (w : World) (hB : Blk w pb 51 [x0, .int .i64 rest, x2, x3, x4, vF, x6]) (hF : w.ownsRow 0 129 2 vF F.length (F.flatMap spotCells)) (hr : rest ≤ 1000) :
    Calls Try.prog 68 #[.pointer (some ⟨pb, 0, none⟩), .int .i64 k, .int .i64 s] w fun e w' => e = .returned (.bool (krests F rest k s)) ∧ Below w.heap.size w w' := by
  have c5 := hB.cell (j := 5) rfl
  have c1 := hB.cell (j := 1) rfl
  have hpb := hB.lt
  obtain ⟨a, cap, rfl, hcap, hmax, hrow⟩ := row_open hF
  unfold maxLen at hmax
  have HROW := hide2 hrow
  clear hB hF hrow
  go_enter Try.func68, Try.ntmps68
  go_wp2
  go_loopw [7, 8] (fun n i wr => ∃ (m : Nat) (x : Int), m ≤ F.length ∧ 0 ≤ x ∧ x ≤ 1000 ∧ i = .int .i64 ((m : Int) - 1) ∧ n = .int .i64 x ∧ Hid (krests F rest k s = krestTo F rest k s m x) ∧ Below w.heap.size w wr) (fun _ i _ => (intOf i + 1).toNat)
  case atStart => exact ⟨F.length, 0, by omega, by omega, by omega, by simp, rfl, rfl, Below.refl _ _⟩
  case round =>
    obtain ⟨m, x, hm, x0', x1', rfl, rfl, hres, hb⟩ := hrel
    have c5' := (hb.cell (p := ⟨pb, 5, none⟩) hpb).trans c5
    have c1' := (hb.cell (p := ⟨pb, 1, none⟩) hpb).trans c1
    cases m with
    | zero =>
      have HN : Hid (krests F rest k s = false) := hres.out
      clear hres
      go_wp2
      go_ret
      exact ⟨by rw [HN.out]; rfl, hb⟩
    | succ m =>
      have hst : Hid (krestTo F rest k s (m + 1) x = if x < rest then (if (F.getD m spotNo).1 = k then (if (F.getD m spotNo).2 = s then true else krestTo F rest k s m (x + 1)) else krestTo F rest k s m x) else false) := rfl
      have hmI : ((m + 1 : Nat) : Int) - 1 = (m : Int) := by omega
      rw [hmI]
      have m0 : (0 : Int) ≤ (m : Int) := by omega
      have hmL : (m : Int) < (F.length : Int) := by omega
      by_cases hn : x < rest
      · obtain ⟨g, rfl, hgl, hcell, _⟩ := HROW.out (by omega)
        obtain ⟨d0, d1⟩ := spot_cells hcell m (by omega)
        have d0' := (hb.cell (p := ⟨g, m * 2, none⟩) hgl).trans d0
        have d1' := (hb.cell (p := ⟨g, m * 2 + 1, none⟩) hgl).trans d1
        clear hcell d0 d1
        generalize (F.getD m spotNo).1 = fk at *
        generalize (F.getD m spotNo).2 = fs at *
        by_cases hk : fk = k
        · have hkb : (fk != k) = false := by simp [hk]
          by_cases hs : fs = s
          · have hsb : (fs == s) = true := by simp [hs]
            have HY : Hid (krests F rest k s = true) := by show _ = _; rw [hres.out, hst.out, if_pos hn, if_pos hk, if_pos hs]
            clear hk hs hst hres
            go_wp2
            go_ret
            exact ⟨by rw [HY.out]; rfl, hb⟩
          · have hsb : (fs == s) = false := by simp [hs]
            have HY : Hid (krests F rest k s = krestTo F rest k s m (x + 1)) := by show _ = _; rw [hres.out, hst.out, if_pos hn, if_pos hk, if_neg hs]
            clear hk hs hst hres
            go_wp2
            go_roundw
            case rel => exact ⟨m, x + 1, by omega, by omega, by omega, rfl, rfl, HY, hb⟩
            case measure => simp [intOf]
        · have hkb : (fk != k) = true := by simp [hk]
          have HY : Hid (krests F rest k s = krestTo F rest k s m x) := by show _ = _; rw [hres.out, hst.out, if_pos hn, if_neg hk]
          clear hk hst hres
          go_wp2
          go_roundw
          case rel => exact ⟨m, x, by omega, by omega, by omega, rfl, rfl, HY, hb⟩
          case measure => simp [intOf]
      · have HY : Hid (krests F rest k s = false) := by show _ = _; rw [hres.out, hst.out, if_neg hn]
        clear hst hres
        go_wp2
        go_ret
        exact ⟨by rw [HY.out]; rfl, hb⟩

/-- how many live blocks of the class are among the first m -/
def kliveN (L : List KBlk) (k : Int) : Nat → Nat
  | 0 => 0
  | m + 1 => kliveN L k m + if (L.getD m KBlk.no).live = true ∧ (L.getD m KBlk.no).k = k then 1 else 0
/-- .. frees, but at most rest -/
def kfreeN (F : List (Int × Int)) (rest k : Int) : Nat → Int
  | 0 => 0
  | m + 1 => if (F.getD m spotNo).1 = k ∧ kfreeN F rest k m < rest then kfreeN F rest k m + 1 else kfreeN F rest k m
theorem kliveN_le (L : List KBlk) (k : Int) (m : Nat) : kliveN L k m ≤ m := by
  induction m with
  | zero => simp [kliveN]
  | succ m ih => simp only [kliveN]; split <;> omega
theorem kfreeN_bd (F : List (Int × Int)) (rest k : Int) (m : Nat) (hr : 0 ≤ rest) : 0 ≤ kfreeN F rest k m ∧ kfreeN F rest k m ≤ rest := by
  induction m with
  | zero => simp [kfreeN]; exact hr
  | succ m ih => simp only [kfreeN]; split <;> omega
def kfull (B : KSt) (k : Nat) : Bool := decide (Cf.sl B.cls k ≤ (kliveN B.L k B.L.length : Int) + kfreeN B.F B.rest k B.F.length)

set_option maxRecDepth 100000 in
set_option maxHeartbeats 1600000 in
theorem kfull_any (pb : Nat) (x3 vL vF x6 : Value) (a : Option Addr) (ccap : Nat) (B : KSt) (k : Nat) (w : World) (hB : Blk w pb 51 [.int .i64 B.st, .int .i64 B.rest, .slice a B.cls.length ccap, x3, vL, vF, x6])
    (hC : CRow w a ccap B.cls) (hv : Cf.Valid B.st B.rest B.cls) (hL : w.ownsRow 0 53 7 vL B.L.length (B.L.flatMap kblkCells)) (hF : w.ownsRow 0 129 2 vF B.F.length (B.F.flatMap spotCells)) (hk : k < B.cls.length) (hlen : B.L.length ≤ 1000000000) :
    Calls Try.prog 121 #[.pointer (some ⟨pb, 0, none⟩), .int .i64 (k : Int)] w fun e w' => e = .returned (.bool (kfull B k)) ∧ Below w.heap.size w w' := by
  have c1 := hB.cell (j := 1) rfl
  have c2 := hB.cell (j := 2) rfl
  have c4 := hB.cell (j := 4) rfl
  have c5 := hB.cell (j := 5) rfl
  have hpb := hB.lt
  have r0 := hv.re0
  have r1 := hv.re1
  obtain ⟨cg, coff, rfl, hcgl, hccell⟩ := hC.cells hv.n0
  obtain ⟨_, dsl⟩ := hccell k hk
  have hcl := hC.len
  have hcc := hC.cap
  unfold maxLen at hcc
  have hkI : (k : Int) < (B.cls.length : Int) := by omega
  have s1 := hv.s1 k hk
  have s0 := hv.s0 k hk
  obtain ⟨al, capl, rfl, hcapl, hmaxl, hrowl⟩ := row_open hL
  obtain ⟨af, capf, rfl, hcapf, hmaxf, hrowf⟩ := row_open hF
  unfold maxLen at hmaxl hmaxf
  have HRL := hide2 hrowl
  have HRF := hide2 hrowf
  have HFULL : Hid (kfull B k = decide (Cf.sl B.cls k ≤ (kliveN B.L k B.L.length : Int) + kfreeN B.F B.rest k B.F.length)) := rfl
  clear hB hC hL hF hrowl hrowf hccell hv
  generalize Cf.sl B.cls k = sl at *
  go_enter Try.func121, Try.ntmps121
  go_wp2
  go_loopw [5, 6] (fun n i wr => ∃ m : Nat, m ≤ B.L.length ∧ i = .int .i64 (m : Int) ∧ n = .int .i64 (kliveN B.L k m : Int) ∧ Below w.heap.size w wr) (fun _ i _ => B.L.length - (intOf i).toNat)
  case atStart => exact ⟨0, by omega, rfl, rfl, Below.refl _ _⟩
  case round =>
    obtain ⟨m, hm, rfl, rfl, hb⟩ := hrel
    have c4' := (hb.cell (p := ⟨pb, 4, none⟩) hpb).trans c4
    have hle := kliveN_le B.L k m
    by_cases hlt : m < B.L.length
    · obtain ⟨g, rfl, hgl, hcell, _⟩ := HRL.out (by omega)
      obtain ⟨_, d1, _, _, d4, _, _⟩ := kblk_cells hcell m hlt
      have d1' := (hb.cell (p := ⟨g, m * 7 + 1, none⟩) hgl).trans d1
      have d4' := (hb.cell (p := ⟨g, m * 7 + 4, none⟩) hgl).trans d4
      have hI : (m : Int) < (B.L.length : Int) := by omega
      have hst : Hid (kliveN B.L k (m + 1) = kliveN B.L k m + if (B.L.getD m KBlk.no).live = true ∧ (B.L.getD m KBlk.no).k = k then 1 else 0) := rfl
      clear hcell d1 d4
      generalize kliveN B.L k m = nn at *
      generalize (B.L.getD m KBlk.no).live = xl at *
      generalize (B.L.getD m KBlk.no).k = xk at *
      cases xl
      · have HX : Hid (kliveN B.L k (m + 1) = nn) := by show _ = _; rw [hst.out]; simp
        clear hst
        go_wp2
        go_roundw
        case rel => exact ⟨m + 1, by omega, by go_num, by rw [HX.out], hb⟩
        case measure => simp [intOf]; omega
      · by_cases hk2 : xk = k
        · have hkb : (xk == (k : Int)) = true := by simp [hk2]
          have HX : Hid (kliveN B.L k (m + 1) = nn + 1) := by show _ = _; rw [hst.out]; simp [hk2]
          clear hst hk2
          go_wp2
          go_roundw
          case rel => exact ⟨m + 1, by omega, by go_num, by rw [HX.out]; go_num, hb⟩
          case measure => simp [intOf]; omega
        · have hkb : (xk == (k : Int)) = false := by simp [hk2]
          have HX : Hid (kliveN B.L k (m + 1) = nn) := by show _ = _; rw [hst.out]; simp [hk2]
          clear hst hk2
          go_wp2
          go_roundw
          case rel => exact ⟨m + 1, by omega, by go_num, by rw [HX.out], hb⟩
          case measure => simp [intOf]; omega
    · obtain rfl : m = B.L.length := by omega
      obtain ⟨wo, rfl⟩ : ∃ wo, wo = wr := ⟨wr, rfl⟩
      have HBO := hide2 hb
      generalize kliveN B.L k B.L.length = nl at *
      go_wp2
      clear hb c4'
      go_loopw [7, 8] (fun n i wr => ∃ m : Nat, m ≤ B.F.length ∧ i = .int .i64 (m : Int) ∧ n = .int .i64 (kfreeN B.F B.rest k m) ∧ Below w.heap.size w wr) (fun _ i _ => B.F.length - (intOf i).toNat)
      case atStart => exact ⟨0, by omega, rfl, rfl, HBO.out⟩
      case round =>
        obtain ⟨m, hm, rfl, rfl, hb⟩ := hrel
        have c1' := (hb.cell (p := ⟨pb, 1, none⟩) hpb).trans c1
        have c2' := (hb.cell (p := ⟨pb, 2, none⟩) hpb).trans c2
        have c5' := (hb.cell (p := ⟨pb, 5, none⟩) hpb).trans c5
        have dsl' := (hb.cell (p := ⟨cg, coff + k * 2 + 1, none⟩) hcgl).trans dsl
        have hfb := kfreeN_bd B.F B.rest k m r0
        have f0 := hfb.1
        have f1 := hfb.2
        clear hfb
        by_cases hltf : m < B.F.length
        · obtain ⟨g, rfl, hgl, hcell, _⟩ := HRF.out (by omega)
          obtain ⟨d0, _⟩ := spot_cells hcell m hltf
          have d0' := (hb.cell (p := ⟨g, m * 2, none⟩) hgl).trans d0
          have hI : (m : Int) < (B.F.length : Int) := by omega
          have hst : Hid (kfreeN B.F B.rest k (m + 1) = if (B.F.getD m spotNo).1 = k ∧ kfreeN B.F B.rest k m < B.rest then kfreeN B.F B.rest k m + 1 else kfreeN B.F B.rest k m) := rfl
          clear hcell d0
          generalize kfreeN B.F B.rest k m = nn at *
          generalize (B.F.getD m spotNo).1 = fk at *
          by_cases hk2 : fk = k
          · have hkb : (fk == (k : Int)) = true := by simp [hk2]
            by_cases hr : nn < B.rest
            · have HX : Hid (kfreeN B.F B.rest k (m + 1) = nn + 1) := by show _ = _; rw [hst.out, if_pos ⟨hk2, hr⟩]
              clear hst hk2
              go_wp2
              go_roundw
              case rel => exact ⟨m + 1, by omega, by go_num, by rw [HX.out], hb⟩
              case measure => simp [intOf]; omega
            · have HX : Hid (kfreeN B.F B.rest k (m + 1) = nn) := by show _ = _; rw [hst.out, if_neg (fun x => hr x.2)]
              clear hst hk2
              go_wp2
              go_roundw
              case rel => exact ⟨m + 1, by omega, by go_num, by rw [HX.out], hb⟩
              case measure => simp [intOf]; omega
          · have hkb : (fk == (k : Int)) = false := by simp [hk2]
            have HX : Hid (kfreeN B.F B.rest k (m + 1) = nn) := by show _ = _; rw [hst.out, if_neg (fun x => hk2 x.1)]
            clear hst hk2
            go_wp2
            go_roundw
            case rel => exact ⟨m + 1, by omega, by go_num, by rw [HX.out], hb⟩
            case measure => simp [intOf]; omega
        · obtain rfl : m = B.F.length := by omega
          generalize kfreeN B.F B.rest k B.F.length = nf at *
          go_wp2
          go_ret
          exact ⟨by rw [HFULL.out]; rfl, hb⟩
end Go.Proofs.Ytjikemhmnkckcaa
