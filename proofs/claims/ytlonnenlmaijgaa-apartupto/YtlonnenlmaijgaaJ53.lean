import Derived.Test.YtlonnenlmaijgaaJ46
import Derived.Test.YtlonnenlmaijgaaJ47
import Derived.Test.YtlonnenlmaijgaaJ48
import Derived.Test.YtlonnenlmaijgaaJ49
import Derived.Test.YtlonnenlmaijgaaJ52
import Derived.Test.YtlonnenlmaijgaaRows
import Derived.Test.YtlonnenlmaijgaaJ2
import Derived.ProofKit
import Derived.OpenShut
import Derived.Lib.SmallJoins
import Derived.Deep.SlicePairs
import Derived.SizedLaws
/- The book's script, played. -/
namespace Go.Proofs.Ytlonnenlmaijgaa
open Go.RowKit

/-- a row of steps in memory -/
structure TRow (w : World) (a : Option Addr) (n c : Nat) (u : Nat → Nat → Int) : Prop where
  len : n ≤ c
  cap : c ≤ maxLen
  cells : 0 < n → ∃ g off, a = some ⟨g, off, none⟩ ∧ g < w.heap.size ∧ ∀ i, i < n → ∀ j, j < 4 → w.cell? ⟨g, off + i * 4 + j, none⟩ = some (.int .i64 (u i j))
  bd : ∀ i, i < n → ∀ j, j < 4 → -9223372036854775808 ≤ u i j ∧ u i j ≤ 9223372036854775807

theorem mOut_first {st rest : Int} {cls : List (Int × Int)} (ho : ROk ⟨st, rest, cls, [], []⟩) : (mOut ⟨st, rest, cls, [], []⟩ 1 0).2 = 0 := by
  have hv : Cf.Valid st rest cls := ho.conf
  have h0 := hv.n0
  have hc : Ref.cls_ cls 1 = 0 := by
    unfold Ref.cls_
    obtain ⟨n, hn⟩ : ∃ n, cls.length = n + 1 := ⟨cls.length - 1, by omega⟩
    rw [hn]
    have := hv.g0 0 h0
    show (if 16 * Cf.gr cls 0 < 1 then _ else 0) = 0
    rw [if_neg (by omega)]
  rcases mOut_cases ⟨st, rest, cls, [], []⟩ ho 1 0 with ⟨h, _⟩ | ⟨k, _, hk, _, hf, _⟩ | ⟨k, s, _, _, _, _, _, _, hm⟩
  · rcases h with h | h
    · exact absurd h (by decide)
    · change Ref.cls_ cls 1 = cls.length at h; omega
  · change Ref.cls_ cls 1 = k at hk
    obtain rfl : k = 0 := by omega
    have hs := hv.s0 0 h0
    have : Ref.first [] rest cls 0 = ((0 : Nat) : Int) := Cf.firstFrom_one _ 0 _ 0 (Nat.le_refl _) (by omega) rfl (fun j h1 h2 => by omega)
    change Ref.first [] rest cls 0 < 0 at hf
    omega
  · rw [hm]

/-- one step, of whatever kind -/
theorem kstep_any (w0 : World) (pb n : Nat) (o0 o1 o2 o3 : Int) (ex : Bool) (w : World) (h : KIn w0 w pb n) (hn : n < 2000000) (b10 : -9223372036854775808 ≤ o1) (b11 : o1 ≤ 9223372036854775807) (b20 : -9223372036854775808 ≤ o2) (b21 : o2 ≤ 9223372036854775807) (b30 : -9223372036854775808 ≤ o3) (b31 : o3 ≤ 9223372036854775807) :
    Calls Try.prog 51 #[.pointer (some ⟨pb, 0, none⟩), .agg #[.int .i64 o0, .int .i64 o1, .int .i64 o2, .int .i64 o3], .bool ex] w fun e w' => e = .returned (.bool true) ∧ KIn w0 w' pb (n + 1) := by
  by_cases h1 : o0 = 1
  · subst h1; exact kstep_malloc w0 pb n o1 o2 o3 ex w h hn b10 b11 b20 b21 b30 b31
  by_cases h2 : o0 = 2
  · subst h2; exact kstep_free w0 pb n o1 o2 o3 ex w h hn b10 b11 b20 b21 b30 b31
  by_cases h3 : o0 = 3
  · subst h3; exact kstep_write w0 pb n o1 o2 o3 ex w h hn b10 b11 b20 b21 b30 b31
  by_cases h4 : o0 = 4
  · subst h4; exact kstep_realloc w0 pb n o1 o2 o3 ex w h hn b10 b11 b20 b21 b30 b31
  exact kstep_other w0 pb n o0 o1 o2 o3 ex w h hn b10 b11 b20 b21 b30 b31 (by simpa using h1) (by simpa using h2) (by simpa using h3) (by simpa using h4)

set_option maxRecDepth 100000 in
set_option maxHeartbeats 3200000 in
theorem kplays_any (w0 : World) (pb : Nat) (ta : Option Addr) (tlen tcap : Nat) (u : Nat → Nat → Int) (ex : Bool) (w : World) (h : KNew w0 w pb) (hs : TRow w0 ta tlen tcap u) (hl : tlen ≤ 1048576) :
    Calls Try.prog 22 #[.pointer (some ⟨pb, 0, none⟩), .slice ta tlen tcap, .bool ex] w fun e w' => e = .returned (.bool true) ∧ KIn w0 w' pb (tlen + 1) := by
  obtain ⟨ph, gc, bb, G, vc, st, rest, cls, hK, hok, hbl, hft⟩ := h
  have HM0 : Hid ((mOut ⟨st, rest, cls, [], []⟩ 1 0).2 = 0) := mOut_first hok.simb.sim.rok
  have HS := hide2 hs
  have HFT := hide2 hft
  have hmax := hs.cap
  have hcap := hs.len
  unfold maxLen at hmax
  have HK := hide2 hK
  have hpb := hK.blk.lt
  have c6 := hK.blk.cell (j := 6) rfl
  have f6 := hK.blk.frozen 6
  have HBL := hide2 hbl
  have HOK1 := hide2 (hok.at_now 1)
  clear hok hbl hft hK hs
  go_enter Try.func22, Try.ntmps22
  go_wp2_with fail
  obtain ⟨w1, hw1⟩ : ∃ w1, w1 = w.setCell ⟨pb, 6, none⟩ (.int .i64 1) := ⟨_, rfl⟩
  rw [← hw1]
  have HK1 : Hid (KRep w1 pb ph gc bb G vc (.slice none 0 0) (.slice none 0 0) ⟨st, rest, cls, [], [], 1⟩) := by
    show KRep _ _ _ _ _ _ _ _ _ _
    rw [hw1]
    exact HK.out.at_now 1
  have HB1 : Hid (Below w0.heap.size w0 w1) := by
    show Below _ _ _
    rw [hw1]
    have hp0 := HFT.out pb (.inl rfl)
    exact HBL.out.trans ⟨rfl, rfl, rfl, by rw [World.size_setCell]; exact Nat.le_refl _, fun k hk => Below.heap_setCell w _ _ k (by show k ≠ pb; omega)⟩
  have hp1 : pb < w1.heap.size := by rw [hw1, World.size_setCell]; exact hpb
  have c3 : w1.cell? ⟨pb, 3, none⟩ = some (.pointer (some ⟨ph, 0, none⟩)) := HK1.out.blk.cell (j := 3) rfl
  have d6 : w1.cell? ⟨pb, 6, none⟩ = some (.int .i64 1) := HK1.out.blk.cell (j := 6) rfl
  have HGP : Hid (¬ GFoot ph gc bb G pb) := fun hx => by
    obtain ⟨col, hs⟩ := HK1.out.sep
    have := hs.g pb hx
    rw [hs.pb] at this; omega
  clear hw1 c6 f6 HK
  go_region_held3 (fun w' => w'.cell? ⟨pb, 3, none⟩ = some (.pointer (some ⟨ph, 0, none⟩)) ∧ w'.cell? ⟨pb, 6, none⟩ = some (.int .i64 1)) (go_keep)
    (first | (go_at_call 28; refine (gmalloc_all ph gc bb G ⟨st, rest, cls, [], []⟩ 1 0 1 w1.drew (HK1.out.heap.kept (fun _ _ => rfl)) HOK1.out.simb.sim).mono ?_; rintro e w2 ⟨rfl, hG2, hk2⟩; have HG2 := hide2 hG2; have HKE := hide2 hk2; have c3' : w2.cell? ⟨pb, 3, none⟩ = some (.pointer (some ⟨ph, 0, none⟩)) := ((World.cell?_of_block (w := w1.drew) (hk2.block pb hp1 HGP.out)).trans c3); have c6' : w2.cell? ⟨pb, 6, none⟩ = some (.int .i64 1) := ((World.cell?_of_block (w := w1.drew) (hk2.block pb hp1 HGP.out)).trans d6); clear hG2 hk2))
  have HKE1 : Hid (Kept w1 w2 (GFoot ph gc bb G)) := ⟨HKE.out.os, HKE.out.tape, HKE.out.output, HKE.out.size, HKE.out.block⟩
  have HK2 := hide2 (HK1.out.goes HG2.out (mG_foot HOK1.out.simb.sim 1 0 1 ph gc bb) HKE1.out)
  clear c3 d6 c3' c6'
  go_wp2_with fail
  refine (kcame_any pb ph gc bb G (mG G ⟨st, rest, cls, [], []⟩ 1 0 1) ⟨st, rest, cls, [], []⟩ vc (.slice none 0 0) (.slice none 0 0) ⟨st, rest, cls, [], [], 1⟩ 1 0 w2 HK2.out HOK1.out (by show 0 ≤ _; omega)).mono ?_
  rintro e w3 ⟨rfl, hres⟩
  have HRES := hide2 hres
  have HFIN : Hid (KIn w0 w3 pb 1) := by
    have hsz1 := HB1.out.size
    have hb2 : Below w0.heap.size w0 w2 := HB1.out.trans (HKE1.out.to_below HB1.out.size (fun b hb => HFT.out b (.inr (.inr (.inl hb)))))
    have hgf := mG_foot HOK1.out.simb.sim 1 0 1 ph gc bb
    rcases HRES.out with ⟨he, rfl⟩ | ⟨vL', wb, k, s, h1, hk, hkl, hf, hs, hz, hm, hK3, hk3, hn3, hwb⟩
    · exact absurd HM0.out he
    · have hb3 : Below w0.heap.size w0 w3 := hb2.trans (hk3.to_below hb2.size (fun b hb => by
        rcases hb with hb | hb
        · exact HFT.out b (.inl hb)
        · exact HFT.out b (.inr (.inr (.inr (.inl hb))))))
      have hs2 := hb2.size
      refine ⟨ph, gc, bb, _, _, vc, vL', _, _, hK3, HOK1.out.malloc 1 0 1 1 wb k s h1 hk hkl hf hs hz hm, by show ([] ++ [_] : List KBlk).length ≤ _; simp, by show ([] : List (Int × Int)).length ≤ _; simp, by show (0 : Int) ≤ 1; omega, by show (1 : Int) ≤ _; omega, hb3, fun b hb => ?_⟩
      rcases hb with hb | hb | hb | hb | hb | ⟨i, hi, hb⟩
      · exact HFT.out b (.inl hb)
      · exact HFT.out b (.inr (.inl hb))
      · exact HFT.out b (.inr (.inr (.inl ((hgf b).1 hb))))
      · rcases hn3 b hb with hb | hb
        · cases hb
        · omega
      · cases hb
      · change i < ([] ++ [_] : List KBlk).length at hi
        change b = (([] ++ [_] : List KBlk).getD i KBlk.no).wb at hb
        obtain rfl : i = 0 := by simp at hi; omega
        rw [hb]
        show w0.heap.size ≤ wb
        omega
  clear HRES hres
  rw [HM0.out]
  go_wp2_with fail
  clear HK1 HK2 HKE HKE1 HG2 HGP HB1 HOK1 HM0 HFT HBL
  go_loopw [10] (fun i wr => ∃ n : Nat, n ≤ tlen ∧ i = .int .i64 (n : Int) ∧ KIn w0 wr pb (n + 1)) (fun i _ => ((tlen : Int) - intOf i).toNat)
  case atStart => exact ⟨0, by omega, rfl, HFIN.out⟩
  case round =>
    obtain ⟨n, hn, rfl, hT⟩ := hrel
    have HT := hide2 hT
    clear hT
    by_cases hlt : n < tlen
    · have hl2 : (n : Int) < (tlen : Int) := by omega
      have h0 : (0 : Int) ≤ (n : Int) := by omega
      obtain ⟨g, off, hsa, hgl, hcell⟩ := HS.out.cells (by omega)
      subst hsa
      have HBE : Hid (Below w0.heap.size w0 wr) := by
        obtain ⟨_, _, _, _, _, _, _, _, _, _, _, _, _, _, _, hb, _⟩ := HT.out
        exact hb
      have e0 : wr.cell? ⟨g, off + n * 4, none⟩ = some (.int .i64 (u n 0)) := (HBE.out.cell (p := ⟨g, off + n * 4, none⟩) hgl).trans (hcell n hlt 0 (by omega))
      have e1 := (HBE.out.cell (p := ⟨g, off + n * 4 + 1, none⟩) hgl).trans (hcell n hlt 1 (by omega))
      have e2 := (HBE.out.cell (p := ⟨g, off + n * 4 + 2, none⟩) hgl).trans (hcell n hlt 2 (by omega))
      have e3 := (HBE.out.cell (p := ⟨g, off + n * 4 + 3, none⟩) hgl).trans (hcell n hlt 3 (by omega))
      have B1 := HS.out.bd n hlt 1 (by omega)
      have B2 := HS.out.bd n hlt 2 (by omega)
      have B3 := HS.out.bd n hlt 3 (by omega)
      clear hcell
      generalize u n 0 = o0 at *
      generalize u n 1 = o1 at *
      generalize u n 2 = o2 at *
      generalize u n 3 = o3 at *
      have HB := hide2 (And.intro B1 (And.intro B2 B3))
      clear B1 B2 B3
      go_wp2_with fail
      refine (kstep_any w0 pb (n + 1) o0 o1 o2 o3 ex wr HT.out (by omega) HB.out.1.1 HB.out.1.2 HB.out.2.1.1 HB.out.2.1.2 HB.out.2.2.1 HB.out.2.2.2).mono ?_
      rintro e w4 ⟨rfl, hi⟩
      have HI := hide2 hi
      clear hi e0 e1 e2 e3
      go_wp2
      go_roundw
      case rel => exact ⟨n + 1, by omega, by go_num, HI.out⟩
      case measure => simp [intOf]; omega
    · obtain rfl : n = tlen := by omega
      go_wp2
      go_ret
      exact ⟨rfl, HT.out⟩
end Go.Proofs.Ytlonnenlmaijgaa
namespace Go.Proofs.Ytlonnenlmaijgaa
open Go.RowKit

theorem KIn.bel {w0 w : World} {pb n : Nat} (h : KIn w0 w pb n) : Below w0.heap.size w0 w := by
  obtain ⟨_, _, _, _, _, _, _, _, _, _, _, _, _, _, _, hb, _⟩ := h
  exact hb

theorem TRow.below {w w' : World} {a : Option Addr} {n c : Nat} {u : Nat → Nat → Int} (h : TRow w a n c u) (hb : Below w.heap.size w w') : TRow w' a n c u :=
  ⟨h.len, h.cap, fun h0 => by
    obtain ⟨g, off, ha, hg, hc⟩ := h.cells h0
    exact ⟨g, off, ha, Nat.lt_of_lt_of_le hg hb.size, fun i hi j hj => (hb.cell (p := ⟨g, off + i * 4 + j, none⟩) hg).trans (hc i hi j hj)⟩, h.bd⟩

set_option maxRecDepth 100000 in
set_option maxHeartbeats 1600000 in
theorem rested_any (st rest : Int) (a : Option Addr) (cap : Nat) (cls : List (Int × Int)) (ta : Option Addr) (tlen tcap : Nat) (u : Nat → Nat → Int) (w : World) (h : CRow w a cap cls) (b0 : -9223372036854775808 ≤ st) (b1 : st ≤ 9223372036854775807) (b2 : -9223372036854775808 ≤ rest) (b3 : rest ≤ 9223372036854775807) (hs : TRow w ta tlen tcap u) (hl : tlen ≤ 1048576) :
    Calls Try.prog 7 #[.agg #[.int .i64 st, .int .i64 rest, .slice a cls.length cap], .slice ta tlen tcap] w fun e w' => e = .returned (.bool true) ∧ Below w.heap.size w w' := by
  have HC := hide2 h
  have HS := hide2 hs
  have HBB := hide2 (And.intro (And.intro b0 b1) (And.intro b2 b3))
  clear h hs b0 b1 b2 b3
  go_enter Try.func7, Try.ntmps7
  go_wp2_with fail
  obtain ⟨wa, hwa⟩ : ∃ wa, wa = w.alloc (.cells #[.int .i64 st, .int .i64 rest, .slice a cls.length cap] 24) := ⟨_, rfl⟩
  rw [← hwa]
  have HBA : Hid (Below w.heap.size w wa) := by show Below _ _ _; rw [hwa]; exact (Below.refl _ _).alloc (Nat.le_refl _) _
  clear hwa
  refine (kopen_any st rest a cap cls wa (HC.out.below HBA.out) HBB.out.1.1 HBB.out.1.2 HBB.out.2.1 HBB.out.2.2).mono ?_
  rintro e w1 ⟨pb, rfl, hn⟩
  have HN := hide2 hn
  clear hn
  go_wp2_with fail
  refine (kplays_any wa pb ta tlen tcap u true w1 HN.out (HS.out.below HBA.out) hl).mono ?_
  rintro e w2 ⟨rfl, hi⟩
  have HI := hide2 hi
  clear hi
  go_wp2
  go_ret
  exact ⟨rfl, HBA.out.trans (HI.out.bel.mono HBA.out.size)⟩
end Go.Proofs.Ytlonnenlmaijgaa
/- A configuration among the arguments, opened. -/
namespace Go.Proofs.Ytlonnenlmaijgaa
open Go.ChangeShapes Go.WideShapes Go.ChangeAt Go.RowKit Go.Joins Go.Deep

theorem bytes_cls : Try.prog.bytesOf 99 = 16 := by kernel_rfl
theorem cells_cls : Try.prog.cellsOf 99 = 2 := by kernel_rfl
theorem cells_conf : Try.prog.cellsOf 24 = 3 := by kernel_rfl
theorem cells_int : Try.prog.cellsOf 3 = 1 := by kernel_rfl

theorem addr_add (g off j : Nat) : (⟨g, off, none⟩ : Addr).add j = ⟨g, off + j, none⟩ := by unfold Addr.add; split <;> simp_all

set_option maxRecDepth 100000 in
theorem open_conf {H : Type} {enc : TypeId × Value → H} {W : World} {base b0 : Nat} {sp : Nat → Bool} {held : Bool} {v : Value} {d : DataW H} {p : List MemPlace}
    (hv : Value.okWide Try.prog W .any b0 24 v) (h : DataW.Trod enc Try.prog W base sp held 24 v d p) :
    ∃ (st rest : Int) (a : Option Addr) (cap : Nat) (cls : List (Int × Int)), v = .agg #[.int .i64 st, .int .i64 rest, .slice a cls.length cap] ∧ CRow W a cap cls ∧
      ((DataW.weights Try.prog 24 d).all (· ≤ reachBytes) = true → cls.length * 16 ≤ 140737488351232) := by
  obtain ⟨v0, v1, v2, y0, y1, y2, n, rfl, rfl, rfl, h0, h1, h2⟩ := open_agg3 Try.underlying24 (by kernel_rfl) cells_conf hv h
  obtain ⟨st, e0, rfl, w0⟩ := DataW.trod_int Try.underlying3 h0
  obtain ⟨rest, e1, rfl, w1⟩ := DataW.trod_int Try.underlying3 h1
  simp only [List.cons.injEq, and_true] at e0 e1
  subst e0 e1
  rcases open_slice_pairs Try.underlying22 Try.underlying99 cells_cls rfl rfl cells_int cells_int h2 with ⟨e2, rfl⟩ | ⟨a, len, cap, m, n', V0, V1, D0, D1, P0, P1, e2, _, hl, hm, hmm, rfl, hx⟩
  · simp only [List.cons.injEq, and_true] at e2
    subst e2
    exact ⟨st, rest, none, 0, [], rfl, ⟨Nat.le_refl _, by simp [maxLen], fun h => absurd h (by simp)⟩, fun _ => by simp⟩
  · simp only [List.cons.injEq, and_true] at e2
    subst e2
    have hlm : len ≤ m := by rw [hmm]; split <;> omega
    have each : ∀ i, i < len → ∃ q : Int × Int, V0 i = .int .i64 q.1 ∧ V1 i = .int .i64 q.2 := fun i hi => by
      obtain ⟨_, _, hx0, hx1⟩ := hx i (by omega)
      obtain ⟨x, ex, _, _⟩ := DataW.trod_int Try.underlying3 hx0
      obtain ⟨y, ey, _, _⟩ := DataW.trod_int Try.underlying3 hx1
      simp only [List.cons.injEq, and_true] at ex ey
      exact ⟨(x, y), ex, ey⟩
    obtain ⟨q, hq⟩ := choose_lt each
    refine ⟨st, rest, some a, cap, (List.range len).map q, by simp, ⟨by simpa using hl, hm, fun h0 => ?_⟩, fun hw => ?_⟩
    · simp only [List.length_map, List.length_range] at h0
      obtain ⟨g, off, spot⟩ := a
      have hc0 := (hx 0 (by omega)).1
      have hspot : spot = none := by simpa [Addr.add] using World.cell?_spot hc0
      subst hspot
      refine ⟨g, off, rfl, ?_, fun i hi => ?_⟩
      · have := World.block_lt_of_cell? W _ hc0
        simpa [Addr.add] using this
      · simp only [List.length_map, List.length_range] at hi
        obtain ⟨c0, c1, _, _⟩ := hx i (by omega)
        have hqi := hq i hi
        rw [hqi.1] at c0
        rw [hqi.2] at c1
        have eg : ((List.range len).map q).getD i (0, 0) = q i := by simp [List.getD_eq_getElem?_getD, hi]
        constructor
        · show W.cell? ⟨g, off + i * 2, none⟩ = some (.int .i64 (((List.range len).map q).getD i (0, 0)).1)
          rw [eg, ← addr_add]; exact c0
        · show W.cell? ⟨g, off + i * 2 + 1, none⟩ = some (.int .i64 (((List.range len).map q).getD i (0, 0)).2)
          rw [eg, Nat.add_assoc, ← addr_add]; exact c1
    · have hmem : (len + (m - len)) * 16 ≤ reachBytes := by
        have := List.all_eq_true.1 hw ((len + (m - len)) * 16) (by simp [DataW.weights, DataW.weightsEach, Try.underlying24, Try.underlying22, bytes_cls])
        simpa using this
      simp only [reachBytes] at hmem
      simp only [List.length_map, List.length_range]
      omega
end Go.Proofs.Ytlonnenlmaijgaa
