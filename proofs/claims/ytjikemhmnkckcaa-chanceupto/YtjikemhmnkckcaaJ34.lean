import Derived.Test.YtjikemhmnkckcaaJ32
import Derived.Test.YtjikemhmnkckcaaJ21
import Derived.Deep.RegionLaw
/- The book's expect and came. -/
namespace Go.Proofs.Ytjikemhmnkckcaa
open Go.RowKit

/-- the error that a Malloc must have -/
def kexpect (B : KSt) (size : Int) : Int := if gcls B.cls size < 0 then 3 else if kfull B (gcls B.cls size).toNat then 4 else 0

theorem gcls_cases (cls : List (Int × Int)) (size : Int) : gcls cls size = -1 ∨ ∃ k : Nat, gcls cls size = (k : Int) ∧ k < cls.length ∧ 1 ≤ size ∧ size ≤ 16 * Cf.gr cls k ∧ Ref.cls_ cls size = k := by
  unfold gcls
  by_cases h : size < 1 ∨ Ref.cls_ cls size = cls.length
  · rw [if_pos h]; exact .inl rfl
  · rw [if_neg h]
    have := Ref.cls_le cls size
    exact .inr ⟨_, rfl, by omega, by omega, Ref.cls_at cls size (by omega), rfl⟩

set_option maxRecDepth 100000 in
set_option maxHeartbeats 1600000 in
theorem kexpect_any (pb ph : Nat) (gc : Value) (bb : Nat) (G : GSt) (vc vL vF : Value) (B : KSt) (size : Int) (w : World) (h : KRep w pb ph gc bb G vc vL vF B) (hv : Cf.Valid B.st B.rest B.cls) (hlen : B.L.length ≤ 1000000000) :
    Calls Try.prog 93 #[.pointer (some ⟨pb, 0, none⟩), .int .i64 size] w fun e w' => e = .returned (.int .i64 (kexpect B size)) ∧ Below w.heap.size w w' := by
  obtain ⟨a, cap, rfl, hc⟩ := h.crow
  have HK := hide2 h
  have HC := hide2 hc
  have HV := hide2 hv
  have c0 := h.blk.cell (j := 0) rfl
  have c1 := h.blk.cell (j := 1) rfl
  have c2 := h.blk.cell (j := 2) rfl
  clear h hc hv
  rcases gcls_cases B.cls size with hg | ⟨k, hg, hk, _, _, _⟩
  · have HG := hide2 hg
    have HF : Hid (kexpect B size = 3) := by show _ = _; unfold kexpect; rw [hg, if_pos (by decide)]
    clear hg
    go_enter Try.func93, Try.ntmps93
    go_wp2_with (go_at_call 64; refine (kclass_any B.st B.rest a cap B.cls size w HV.out HC.out).mono ?_; rw [HG.out]; rintro e1 w1 ⟨rfl, hb1⟩)
    go_ret
    exact ⟨by rw [HF.out]; rfl, hb1⟩
  · have HG := hide2 hg
    have HF : Hid (kexpect B size = if kfull B k then 4 else 0) := by show _ = _; unfold kexpect; rw [hg, if_neg (by omega), Int.toNat_natCast]
    clear hg
    go_enter Try.func93, Try.ntmps93
    go_wp2_with fail
    refine (kclass_any B.st B.rest a cap B.cls size w HV.out HC.out).mono ?_
    rw [HG.out]
    rintro e1 w1 ⟨rfl, hb1⟩
    have HK1 := hide2 (HK.out.below hb1)
    have HC1 := hide2 (HC.out.below hb1)
    go_wp2_with fail
    refine (kfull_any pb _ vL vF _ a cap B k w1 HK1.out.blk HC1.out HV.out HK1.out.L HK1.out.F hk hlen).mono ?_
    cases hfu : kfull B k
    · have HX : Hid (kexpect B size = 0) := by show _ = _; rw [HF.out, hfu]; rfl
      clear HF hfu
      rintro e2 w2 ⟨rfl, hb2⟩
      go_wp2
      go_ret
      exact ⟨by rw [HX.out]; rfl, hb1.trans (hb2.mono hb1.size)⟩
    · have HX : Hid (kexpect B size = 4) := by show _ = _; rw [HF.out, hfu]; rfl
      clear HF hfu
      rintro e2 w2 ⟨rfl, hb2⟩
      go_wp2
      go_ret
      exact ⟨by rw [HX.out]; rfl, hb1.trans (hb2.mono hb1.size)⟩

set_option maxHeartbeats 800000 in
theorem kcame_no (pb : Nat) (e size : Int) (w : World) (he : e ≠ 0) :
    Calls Try.prog 30 #[.pointer (some ⟨pb, 0, none⟩), .int .i64 0, .int .i64 e, .int .i64 size] w fun e' w' => e' = .returned (.bool true) ∧ w = w' := by
  have heb : (e != 0) = true := by simp [he]
  clear he
  go_enter Try.func30, Try.ntmps30
  go_wp2
  go_ret
  exact ⟨rfl, rfl⟩

theorem info_kblk : (Try.prog.info? 53).map (fun i => (i.zero, i.size, i.bytes)) = some (some (.agg #[.int .i64 0, .int .i64 0, .int .i64 0, .slice none 0 0, .bool false, .int .i64 0, .int .i64 0]), 7, 72) := by kernel_rfl

/-- a block joins the book -/
theorem KRep.push {w : World} {pb ph : Nat} {gc : Value} {bb : Nat} {G : GSt} {vc vL vF : Value} {B : KSt} (h : KRep w pb ph gc bb G vc vL vF B) (x : KBlk) {w7 : World} {gg cap : Nat}
    (hown : w7.ownsRow 0 53 7 (.slice (some ⟨gg, 0, none⟩) (B.L.length + 1) cap) (B.L.length + 1) (B.L.flatMap kblkCells ++ kblkCells x))
    (hk : Kept w w7 (fun b => vL.ownBlock = some b)) (hx : Blk w7 x.wb 3 (x.want.map (Value.int .i64))) (hxn : w.heap.size ≤ x.wb) (hat : vL.ownBlock = some gg ∨ x.wb < gg) :
    KRep (w7.setCell ⟨pb, 4, none⟩ (.slice (some ⟨gg, 0, none⟩) (B.L.length + 1) cap)) pb ph gc bb G vc (.slice (some ⟨gg, 0, none⟩) (B.L.length + 1) cap) vF ⟨B.st, B.rest, B.cls, B.L ++ [x], B.F, B.now⟩ ∧
    Kept w (w7.setCell ⟨pb, 4, none⟩ (.slice (some ⟨gg, 0, none⟩) (B.L.length + 1) cap)) (fun b => b = pb ∨ vL.ownBlock = some b) ∧ (vL.ownBlock = some gg ∨ w.heap.size ≤ gg) := by
  obtain ⟨col, hs⟩ := h.sep
  have hpb := h.blk.lt
  have hpl : vL.ownBlock ≠ some pb := fun e => by have := hs.vL pb e; rw [hs.pb] at this; omega
  have hgp : gg ≠ pb := by
    rcases hat with e | e
    · intro e2; subst e2; exact hpl e
    · omega
  have hgx : gg ≠ x.wb := by
    rcases hat with e | e
    · have := row_lt h.L e; omega
    · omega
  have hblk : ∀ b, b < w.heap.size → vL.ownBlock ≠ some b → b ≠ pb → (w7.setCell ⟨pb, 4, none⟩ (.slice (some ⟨gg, 0, none⟩) (B.L.length + 1) cap)).heap[b]? = w.heap[b]? := fun b h1 h2 h3 => by
    rw [Below.heap_setCell w7 _ _ b h3]; exact hk.block b h1 h2
  have hcol : ∀ b, col b ≠ 3 → vL.ownBlock ≠ some b := fun b hb e => hb (hs.vL b e)
  have hcp : ∀ b, col b ≠ 0 → b ≠ pb := fun b hb e => hb (by rw [e]; exact hs.pb)
  have hlt : ∀ i, i < B.L.length → (B.L.getD i KBlk.no).wb < w.heap.size := fun i hi => (h.want i hi).lt
  have hgetl : ∀ i, i < B.L.length → (B.L ++ [x]).getD i KBlk.no = B.L.getD i KBlk.no := fun i hi => by
    rw [List.getD_eq_getElem?_getD, List.getElem?_append_left hi, ← List.getD_eq_getElem?_getD]
  have hgetr : (B.L ++ [x]).getD B.L.length KBlk.no = x := by simp
  have hll : (B.L ++ [x]).length = B.L.length + 1 := by simp
  refine ⟨⟨?_, ?_, ?_, ?_, ?_, ?_, ?_⟩, ?_, ?_⟩
  · have e : Blk w7 pb 51 [.int .i64 B.st, .int .i64 B.rest, vc, .pointer (some ⟨ph, 0, none⟩), vL, vF, .int .i64 B.now] := (hk.block pb hpb hpl).trans h.blk
    exact e.setCell 4 _
  · exact row_kept h.cls fun g hg => hblk g (row_lt h.cls hg) (hcol g (by rw [hs.vc g hg]; decide)) (hcp g (by rw [hs.vc g hg]; decide))
  · exact h.heap.kept fun b hb => hblk b (h.heap.foot_lt hb) (hcol b (by rw [hs.g b hb]; decide)) (hcp b (by rw [hs.g b hb]; decide))
  · show World.ownsRow _ 0 _ 7 _ (B.L ++ [x]).length ((B.L ++ [x]).flatMap kblkCells)
    rw [hll, List.flatMap_append]
    refine row_kept ?_ (fun g hg => Below.heap_setCell w7 _ _ g (by simp [Value.ownBlock] at hg; show g ≠ pb; omega))
    simpa using hown
  · exact row_kept h.F fun g hg => hblk g (row_lt h.F hg) (hcol g (by rw [hs.vF g hg]; decide)) (hcp g (by rw [hs.vF g hg]; decide))
  · intro i hi
    change i < (B.L ++ [x]).length at hi
    show Blk _ ((B.L ++ [x]).getD i KBlk.no).wb _ (((B.L ++ [x]).getD i KBlk.no).want.map _)
    by_cases e : i < B.L.length
    · rw [hgetl i e]
      exact (hblk _ (hlt i e) (hcol _ (by rw [hs.want i e]; omega)) (hcp _ (by rw [hs.want i e]; omega))).trans (h.want i e)
    · obtain rfl : i = B.L.length := by omega
      rw [hgetr]
      exact hx.setCell_other _ _ (by show x.wb ≠ pb; omega)
  · refine ⟨fun b => if b = x.wb then 5 + B.L.length else if b = gg then 3 else col b, ?_, ?_, ?_, ?_, ?_, ?_⟩
    · show (if pb = x.wb then _ else if pb = gg then _ else _) = _
      rw [if_neg (by omega), if_neg (fun e => hgp e.symm)]; exact hs.pb
    · intro b hb
      have := row_lt h.cls hb
      show (if b = x.wb then _ else if b = gg then _ else _) = _
      rw [if_neg (by omega), if_neg, hs.vc b hb]
      rintro rfl
      rcases hat with e | e
      · have := hs.vL b e; have := hs.vc b hb; omega
      · omega
    · intro b hb
      have := h.heap.foot_lt hb
      show (if b = x.wb then _ else if b = gg then _ else _) = _
      rw [if_neg (by omega), if_neg, hs.g b hb]
      rintro rfl
      rcases hat with e | e
      · have := hs.vL b e; have := hs.g b hb; omega
      · omega
    · intro b hb
      simp [Value.ownBlock] at hb
      show (if b = x.wb then _ else if b = gg then _ else _) = _
      rw [if_neg (by omega), if_pos (by omega)]
    · intro b hb
      have := row_lt h.F hb
      show (if b = x.wb then _ else if b = gg then _ else _) = _
      rw [if_neg (by omega), if_neg, hs.vF b hb]
      rintro rfl
      rcases hat with e | e
      · have := hs.vL b e; have := hs.vF b hb; omega
      · omega
    · intro i hi
      change i < (B.L ++ [x]).length at hi
      show (if ((B.L ++ [x]).getD i KBlk.no).wb = x.wb then _ else if ((B.L ++ [x]).getD i KBlk.no).wb = gg then _ else _) = _
      by_cases e : i < B.L.length
      · have := hlt i e
        rw [hgetl i e, if_neg (by omega), if_neg, hs.want i e]
        intro e2
        rcases hat with e3 | e3
        · have e4 := hs.vL gg e3
          rw [← e2, hs.want i e] at e4; omega
        · omega
      · obtain rfl : i = B.L.length := by omega
        rw [hgetr, if_pos rfl]
  · refine ⟨hk.os, hk.tape, hk.output, by rw [World.size_setCell]; exact hk.size, fun k hk2 hs2 => hblk k hk2 (fun e => hs2 (.inr e)) (fun e => hs2 (.inl e))⟩
  · rcases hat with e | e
    · exact .inl e
    · right; omega
end Go.Proofs.Ytjikemhmnkckcaa
/- Writing into the book. -/
namespace Go.Proofs.Ytjikemhmnkckcaa
open Go.RowKit

theorem row_set {w : World} {e : TypeId} {m : Nat} {n : Nat} {xs : List Value} {g cap : Nat} (h : w.ownsRow 0 e m (.slice (some ⟨g, 0, none⟩) n cap) n xs) (j : Nat) (x : Value) : (w.setCell ⟨g, j, none⟩ x).ownsRow 0 e m (.slice (some ⟨g, 0, none⟩) n cap) n (xs.set j x) := by
  refine ⟨by rw [List.length_set]; exact h.1, ?_⟩
  rcases h.2 with ⟨e0, _⟩ | ⟨g', cap', cur, hv, _, hg, hnc, hcm, hcs, htake⟩
  · cases e0
  · injection hv with e1 e2 e3
    injection e1 with e1
    injection e1 with e1 _ _
    subst e1
    subst e3
    have hb : Blk w g e cur.toList := by unfold Blk; rw [hg]
    have hb2 := hb.setCell j x
    unfold Blk at hb2
    refine .inr ⟨g, cap, (cur.toList.set j x).toArray, rfl, Nat.zero_le _, hb2, hnc, hcm, ?_, ?_⟩
    · rw [List.size_toArray, List.length_set, Array.length_toList]; exact hcs
    · rw [List.toList_toArray, ← htake, List.take_set]

def KBlk.withWant (x : KBlk) (want : List Int) : KBlk := ⟨x.p, x.k, x.s, want, x.wb, x.live, x.site, x.gone⟩
theorem getD_setL (L : List KBlk) (i j : Nat) (x : KBlk) (hi : i < L.length) : (L.set i x).getD j KBlk.no = if j = i then x else L.getD j KBlk.no := by
  simp only [List.getD_eq_getElem?_getD, List.getElem?_set]
  by_cases h : i = j
  · subst h; simp [hi]
  · rw [if_neg h, if_neg (fun e => h e.symm)]

section
variable {w w' : World} {pb ph : Nat} {gc : Value} {bb : Nat} {G : GSt} {vc vL vF : Value} {B : KSt}
theorem KRep.at_now (h : KRep w pb ph gc bb G vc vL vF B) (n : Int) : KRep (w.setCell ⟨pb, 6, none⟩ (.int .i64 n)) pb ph gc bb G vc vL vF ⟨B.st, B.rest, B.cls, B.L, B.F, n⟩ := by
  obtain ⟨col, hs⟩ := h.sep
  have hcp : ∀ b, col b ≠ 0 → (w.setCell ⟨pb, 6, none⟩ (.int .i64 n)).heap[b]? = w.heap[b]? := fun b hb => Below.heap_setCell w _ _ b (fun e => hb (by rw [show b = pb from e]; exact hs.pb))
  exact ⟨h.blk.setCell 6 _, row_kept h.cls fun g hg => hcp g (by rw [hs.vc g hg]; decide), h.heap.kept fun b hb => hcp b (by rw [hs.g b hb]; decide), row_kept h.L fun g hg => hcp g (by rw [hs.vL g hg]; decide),
    row_kept h.F fun g hg => hcp g (by rw [hs.vF g hg]; decide), fun i hi => (hcp _ (by rw [hs.want i hi]; omega)).trans (h.want i hi), col, hs⟩

/-- one field of a block -/
theorem KRep.field {g n cap : Nat} (h : KRep w pb ph gc bb G vc (.slice (some ⟨g, 0, none⟩) n cap) vF B) (hn : n = B.L.length) (i j : Nat) (hi : i < B.L.length) (hj : j < 7) (v : Value) (x : KBlk) (hx : kblkCells x = (kblkCells (B.L.getD i KBlk.no)).set j v) (h1 : x.wb = (B.L.getD i KBlk.no).wb) (h2 : x.want = (B.L.getD i KBlk.no).want) :
    KRep (w.setCell ⟨g, i * 7 + j, none⟩ v) pb ph gc bb G vc (.slice (some ⟨g, 0, none⟩) n cap) vF ⟨B.st, B.rest, B.cls, B.L.set i x, B.F, B.now⟩ := by
  subst hn
  obtain ⟨col, hs⟩ := h.sep
  have hg3 : col g = 3 := hs.vL g rfl
  have hcp : ∀ b, col b ≠ 3 → (w.setCell ⟨g, i * 7 + j, none⟩ v).heap[b]? = w.heap[b]? := fun b hb => Below.heap_setCell w _ _ b (fun e => hb (by rw [show b = g from e]; exact hg3))
  have hget : ∀ t, ((B.L.set i x).getD t KBlk.no).wb = (B.L.getD t KBlk.no).wb ∧ ((B.L.set i x).getD t KBlk.no).want = (B.L.getD t KBlk.no).want := fun t => by
    rw [getD_setL _ _ _ _ hi]
    by_cases e : t = i
    · rw [if_pos e, e]; exact ⟨h1, h2⟩
    · rw [if_neg e]; exact ⟨rfl, rfl⟩
  have hl : (B.L.set i x).length = B.L.length := List.length_set
  refine ⟨(hcp pb (by rw [hs.pb]; decide)).trans h.blk, row_kept h.cls fun g hg => hcp g (by rw [hs.vc g hg]; decide), h.heap.kept fun b hb => hcp b (by rw [hs.g b hb]; decide), ?_,
    row_kept h.F fun g hg => hcp g (by rw [hs.vF g hg]; decide), fun t ht => ?_, col, ⟨hs.pb, hs.vc, hs.g, hs.vL, hs.vF, fun t ht => ?_⟩⟩
  · show World.ownsRow _ 0 _ 7 _ (B.L.set i x).length ((B.L.set i x).flatMap kblkCells)
    rw [hl, ← flat_set kblkCells 7 (fun _ => rfl) B.L KBlk.no i j hi hj x v hx]
    exact row_set h.L _ _
  · change t < (B.L.set i x).length at ht
    rw [hl] at ht
    show Blk _ ((B.L.set i x).getD t KBlk.no).wb _ (((B.L.set i x).getD t KBlk.no).want.map _)
    rw [(hget t).1, (hget t).2]
    exact (hcp _ (by rw [hs.want t ht]; omega)).trans (h.want t ht)
  · change t < (B.L.set i x).length at ht
    rw [hl] at ht
    show col ((B.L.set i x).getD t KBlk.no).wb = _
    rw [(hget t).1]; exact hs.want t ht

/-- what must stand in a block -/
theorem KRep.wants (h : KRep w pb ph gc bb G vc vL vF B) (i : Nat) (hi : i < B.L.length) (want : List Int) (hl : want.length = (B.L.getD i KBlk.no).want.length) (hB : Blk w' (B.L.getD i KBlk.no).wb 3 (want.map (Value.int .i64))) (hk : Kept w w' (· = (B.L.getD i KBlk.no).wb)) :
    KRep w' pb ph gc bb G vc vL vF ⟨B.st, B.rest, B.cls, B.L.set i ((B.L.getD i KBlk.no).withWant want), B.F, B.now⟩ := by
  obtain ⟨col, hs⟩ := h.sep
  have hci := hs.want i hi
  have hcp : ∀ b, b < w.heap.size → col b ≠ 5 + i → w'.heap[b]? = w.heap[b]? := fun b hb hc => hk.block b hb (fun e => hc (by rw [e]; exact hci))
  have hll : (B.L.set i ((B.L.getD i KBlk.no).withWant want)).length = B.L.length := List.length_set
  have hwb : ∀ t, ((B.L.set i ((B.L.getD i KBlk.no).withWant want)).getD t KBlk.no).wb = (B.L.getD t KBlk.no).wb := fun t => by
    rw [getD_setL _ _ _ _ hi]
    by_cases e : t = i
    · rw [if_pos e, e]; rfl
    · rw [if_neg e]
  refine ⟨(hcp pb h.blk.lt (by rw [hs.pb]; omega)).trans h.blk, row_kept h.cls fun g hg => hcp g (row_lt h.cls hg) (by rw [hs.vc g hg]; omega), h.heap.kept fun b hb => hcp b (h.heap.foot_lt hb) (by rw [hs.g b hb]; omega), ?_,
    row_kept h.F fun g hg => hcp g (row_lt h.F hg) (by rw [hs.vF g hg]; omega), fun t ht => ?_, col, ⟨hs.pb, hs.vc, hs.g, hs.vL, hs.vF, fun t ht => ?_⟩⟩
  · show World.ownsRow _ 0 _ 7 _ (B.L.set i _).length ((B.L.set i ((B.L.getD i KBlk.no).withWant want)).flatMap kblkCells)
    rw [hll, flat_set_same kblkCells B.L i _ KBlk.no (fun _ => by simp [kblkCells, KBlk.withWant, hl])]
    exact row_kept h.L fun g hg => hcp g (row_lt h.L hg) (by rw [hs.vL g hg]; omega)
  · change t < (B.L.set i _).length at ht
    rw [hll] at ht
    show Blk _ ((B.L.set i ((B.L.getD i KBlk.no).withWant want)).getD t KBlk.no).wb _ (((B.L.set i ((B.L.getD i KBlk.no).withWant want)).getD t KBlk.no).want.map _)
    rw [hwb, getD_setL _ _ _ _ hi]
    by_cases e : t = i
    · rw [if_pos e, e]; exact hB
    · rw [if_neg e]
      exact (hcp _ (h.want t ht).lt (by rw [hs.want t ht]; omega)).trans (h.want t ht)
  · change t < (B.L.set i _).length at ht
    rw [hll] at ht
    show col ((B.L.set i ((B.L.getD i KBlk.no).withWant want)).getD t KBlk.no).wb = _
    rw [hwb]; exact hs.want t ht

/-- a slot was freed -/
theorem KRep.pushF (h : KRep w pb ph gc bb G vc vL vF B) (x : Int × Int) {w7 : World} {gg cap : Nat}
    (hown : w7.ownsRow 0 129 2 (.slice (some ⟨gg, 0, none⟩) (B.F.length + 1) cap) (B.F.length + 1) (B.F.flatMap spotCells ++ spotCells x))
    (hk : Kept w w7 (fun b => vF.ownBlock = some b)) (hat : vF.ownBlock = some gg ∨ w.heap.size ≤ gg) :
    KRep (w7.setCell ⟨pb, 5, none⟩ (.slice (some ⟨gg, 0, none⟩) (B.F.length + 1) cap)) pb ph gc bb G vc vL (.slice (some ⟨gg, 0, none⟩) (B.F.length + 1) cap) ⟨B.st, B.rest, B.cls, B.L, B.F ++ [x], B.now⟩ ∧
    Kept w (w7.setCell ⟨pb, 5, none⟩ (.slice (some ⟨gg, 0, none⟩) (B.F.length + 1) cap)) (fun b => b = pb ∨ vF.ownBlock = some b) := by
  obtain ⟨col, hs⟩ := h.sep
  have hpb := h.blk.lt
  have hpl : vF.ownBlock ≠ some pb := fun e => by have := hs.vF pb e; rw [hs.pb] at this; omega
  have hgp : gg ≠ pb := by
    rcases hat with e | e
    · intro e2; subst e2; exact hpl e
    · omega
  have hblk : ∀ b, b < w.heap.size → vF.ownBlock ≠ some b → b ≠ pb → (w7.setCell ⟨pb, 5, none⟩ (.slice (some ⟨gg, 0, none⟩) (B.F.length + 1) cap)).heap[b]? = w.heap[b]? := fun b h1 h2 h3 => by
    rw [Below.heap_setCell w7 _ _ b h3]; exact hk.block b h1 h2
  have hcol : ∀ b, col b ≠ 4 → vF.ownBlock ≠ some b := fun b hb e => hb (hs.vF b e)
  have hcp : ∀ b, col b ≠ 0 → b ≠ pb := fun b hb e => hb (by rw [e]; exact hs.pb)
  have hgg : ∀ b, b < w.heap.size → col b ≠ 4 → b ≠ gg := fun b hb hc e => by
    rcases hat with x | x
    · exact hc (by rw [e]; exact hs.vF gg x)
    · omega
  refine ⟨⟨?_, ?_, ?_, ?_, ?_, ?_, ?_⟩, ?_⟩
  · have e : Blk w7 pb 51 [.int .i64 B.st, .int .i64 B.rest, vc, .pointer (some ⟨ph, 0, none⟩), vL, vF, .int .i64 B.now] := (hk.block pb hpb hpl).trans h.blk
    exact e.setCell 5 _
  · exact row_kept h.cls fun g hg => hblk g (row_lt h.cls hg) (hcol g (by rw [hs.vc g hg]; decide)) (hcp g (by rw [hs.vc g hg]; decide))
  · exact h.heap.kept fun b hb => hblk b (h.heap.foot_lt hb) (hcol b (by rw [hs.g b hb]; decide)) (hcp b (by rw [hs.g b hb]; decide))
  · exact row_kept h.L fun g hg => hblk g (row_lt h.L hg) (hcol g (by rw [hs.vL g hg]; decide)) (hcp g (by rw [hs.vL g hg]; decide))
  · show World.ownsRow _ 0 _ 2 _ (B.F ++ [x]).length ((B.F ++ [x]).flatMap spotCells)
    rw [show (B.F ++ [x]).length = B.F.length + 1 by simp, List.flatMap_append]
    refine row_kept ?_ (fun g hg => Below.heap_setCell w7 _ _ g (by simp [Value.ownBlock] at hg; show g ≠ pb; omega))
    simpa using hown
  · exact fun i hi => (hblk _ (h.want i hi).lt (hcol _ (by rw [hs.want i hi]; omega)) (hcp _ (by rw [hs.want i hi]; omega))).trans (h.want i hi)
  · refine ⟨fun b => if b = gg then 4 else col b, ?_, ?_, ?_, ?_, ?_, ?_⟩
    · show (if pb = gg then _ else _) = _
      rw [if_neg (fun e => hgp e.symm)]; exact hs.pb
    · intro b hb
      show (if b = gg then _ else _) = _
      rw [if_neg (hgg b (row_lt h.cls hb) (by rw [hs.vc b hb]; decide))]; exact hs.vc b hb
    · intro b hb
      show (if b = gg then _ else _) = _
      rw [if_neg (hgg b (h.heap.foot_lt hb) (by rw [hs.g b hb]; decide))]; exact hs.g b hb
    · intro b hb
      show (if b = gg then _ else _) = _
      rw [if_neg (hgg b (row_lt h.L hb) (by rw [hs.vL b hb]; decide))]; exact hs.vL b hb
    · intro b hb
      simp [Value.ownBlock] at hb
      show (if b = gg then _ else _) = _
      rw [if_pos (by omega)]
    · intro i hi
      show (if (B.L.getD i KBlk.no).wb = gg then _ else _) = _
      rw [if_neg (hgg _ (h.want i hi).lt (by rw [hs.want i hi]; omega))]; exact hs.want i hi
  · exact ⟨hk.os, hk.tape, hk.output, by rw [World.size_setCell]; exact hk.size, fun k hk2 hs2 => hblk k hk2 (fun e => hs2 (.inr e)) (fun e => hs2 (.inl e))⟩
end
end Go.Proofs.Ytjikemhmnkckcaa
