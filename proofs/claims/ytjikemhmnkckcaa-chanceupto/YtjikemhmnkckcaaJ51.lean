import Derived.Test.YtjikemhmnkckcaaJ39
import Derived.Test.YtjikemhmnkckcaaJ46
import Derived.Test.YtjikemhmnkckcaaJ47
import Derived.Test.YtjikemhmnkckcaaJ48
import Derived.Test.YtjikemhmnkckcaaJ50
/- The book's script, played: what it comes to. -/
namespace Go.Proofs.Ytjikemhmnkckcaa
open Go.RowKit
attribute [local go_sem ↓] Go.wp_at_zero Go.wp_at_succ

/-- a book at its beginning -/
def KNewT (st rest : Int) (cls : List (Int × Int)) (w0 w : World) (pb : Nat) : Prop := ∃ ph gc bb G vc, KRep w pb ph gc bb G vc (.slice none 0 0) (.slice none 0 0) ⟨st, rest, cls, [], [], 0⟩ ∧ KOk ⟨st, rest, cls, [], [], 0⟩ G ⟨st, rest, cls, [], []⟩ ∧ Below w0.heap.size w0 w ∧ ∀ b, KFoot pb ph gc bb G vc (.slice none 0 0) (.slice none 0 0) [] b → w0.heap.size ≤ b

set_option maxRecDepth 100000 in
set_option maxHeartbeats 3200000 in
theorem topen_any (st rest : Int) (a : Option Addr) (cap : Nat) (cls : List (Int × Int)) (w : World) (h : CRow w a cap cls) (b0 : -9223372036854775808 ≤ st) (b1 : st ≤ 9223372036854775807) (b2 : -9223372036854775808 ≤ rest) (b3 : rest ≤ 9223372036854775807) :
    Calls Try.prog 22 #[.agg #[.int .i64 st, .int .i64 rest, .slice a cls.length cap]] w fun e w' => ∃ pb, e = .returned (.pointer (some ⟨pb, 0, none⟩)) ∧ KNewT (kpick st 17) (kpick rest 17) (kfit cls) w w' pb := by
  have HC := hide2 h
  have s1 := kpick_bd st 17 (by omega)
  have s2 := kpick_bd rest 17 (by omega)
  have HV := hide2 (kfit_valid (kpick st 17) (kpick rest 17) cls (by omega) (by omega) (by omega) (by omega))
  clear h
  go_enter Try.func22, Try.ntmps22
  go_wp2_with fail
  obtain ⟨wa, hwa⟩ : ∃ wa, wa = w.alloc (.cells #[.int .i64 st, .int .i64 rest, .slice a cls.length cap] 24) := ⟨_, rfl⟩
  rw [← hwa]
  have HBA : Hid (Below w.heap.size w wa) := by show Below _ _ _; rw [hwa]; exact (Below.refl _ _).alloc (Nat.le_refl _) _
  have HCA : Hid (Blk wa w.heap.size 24 [.int .i64 st, .int .i64 rest, .slice a cls.length cap]) := by show Blk _ _ _ _; rw [hwa]; exact Blk.alloc _ _ _
  clear hwa
  refine (kfit_any st rest a cap cls wa (HC.out.below HBA.out) b0 b1 b2 b3).mono ?_
  rintro e1 w1 ⟨v1, rfl, hr1, hb1, hl1⟩
  obtain ⟨a1, cap1, rfl, hc1⟩ := CRow.of_row hr1
  have HB1 := hide2 hb1
  have HC1 := hide2 hc1
  clear hr1 hb1 hl1 hc1
  go_wp2_with fail
  obtain ⟨wb, hwb⟩ : ∃ wb, wb = w1.alloc (.cells #[.int .i64 (kpick st 17), .int .i64 (kpick rest 17), .slice a1 (kfit cls).length cap1] 24) := ⟨_, rfl⟩
  rw [← hwb]
  have HBB : Hid (Below w1.heap.size w1 wb) := by show Below _ _ _; rw [hwb]; exact (Below.refl _ _).alloc (Nat.le_refl _) _
  clear hwb
  refine (gnew_yes (kpick st 17) (kpick rest 17) a1 cap1 (kfit cls) wb (HC1.out.below HBB.out) HV.out).mono ?_
  rintro e2 w2 ⟨ph, gc, bb, cs, rfl, hG, hok, hb2, hft⟩
  have HG := hide2 hG
  have HB2 := hide2 hb2
  have HFT := hide2 hft
  have HOK := hide2 hok
  have HC2 : Hid (Below wa.heap.size wa w2) := HB1.out.trans ((HBB.out.mono HB1.out.size).trans (HB2.out.mono (Nat.le_trans HB1.out.size HBB.out.size)))
  have c0 := (HCA.out.below HC2.out HCA.out.lt).cell (j := 0) rfl
  have c1 := (HCA.out.below HC2.out HCA.out.lt).cell (j := 1) rfl
  have c2 := (HCA.out.below HC2.out HCA.out.lt).cell (j := 2) rfl
  clear hG hb2 hft hok
  go_wp2_with fail
  refine (kfit_any st rest a cap cls w2 (HC.out.below (HBA.out.trans (HC2.out.mono HBA.out.size))) b0 b1 b2 b3).mono ?_
  rintro e3 w3 ⟨v3, rfl, hr3, hb3, hl3⟩
  have HB3 := hide2 hb3
  have HR3 := hide2 hr3
  have HL3 := hide2 hl3
  obtain ⟨a3, cap3, rfl, -⟩ := row_open hr3
  clear hr3 hb3 hl3 c0 c1 c2
  go_wp2
  go_ret
  have hs1 := HBA.out.size
  have hs2 := HC2.out.size
  have hs3 := HB3.out.size
  have hs4 := HB1.out.size
  have hs5 := HBB.out.size
  have hbt : Below w.heap.size w w3 := HBA.out.trans ((HC2.out.mono hs1).trans (HB3.out.mono (Nat.le_trans hs1 hs2)))
  refine ⟨w3.heap.size, rfl, ph, gc, bb, _, _, KRep.start (HG.out.below HB3.out) HR3.out (fun b h1 h2 => ?_), KOk.start HV.out HOK.out, hbt.alloc hbt.size _, ?_⟩
  · have h3 := HL3.out b h1
    have h4 := HG.out.foot_lt h2
    omega
  · intro b hb
    rcases hb with rfl | hb | hb | hb | hb | ⟨i, hi, _⟩
    · omega
    · have := HL3.out b hb; omega
    · have := HFT.out b hb; omega
    · cases hb
    · cases hb
    · exact absurd hi (by simp)

/-- What stands behind the first Malloc. -/
def kFirst (st rest : Int) (cls : List (Int × Int)) (R : RSt) (B : KSt) : Prop := ∃ wb k s : Nat, Ref.cls_ cls 1 = k ∧ Ref.first [] rest cls k = (s : Int) ∧ R = mR ⟨st, rest, cls, [], []⟩ 1 0 1 ∧ B = ⟨st, rest, cls, [] ++ [⟨(Ref.tagOf [] k s 0 : Int) * 72057594037927936 + Cf.begin_ st cls k s, k, s, List.replicate (16 * Ref.gsz 1).toNat 0, wb, true, 1, 0⟩], [], 1⟩
/-- What stands behind so many steps of the script. -/
def kAfter (st rest : Int) (cls : List (Int × Int)) (u : Nat → Nat → Int) : Nat → RSt → KSt → Prop
  | 0 => kFirst st rest cls
  | n + 1 => kNext (kAfter st rest cls u n) (u n 0) (u n 1) (u n 2) (u n 3)

/-- one step, of whatever kind -/
theorem tstep_any (T : RSt → KSt → Prop) (w0 : World) (pb n : Nat) (o0 o1 o2 o3 : Int) (ex : Bool) (w : World) (h : KInT T w0 w pb n) (hn : n < 2000000) (b10 : -9223372036854775808 ≤ o1) (b11 : o1 ≤ 9223372036854775807) (b20 : -9223372036854775808 ≤ o2) (b21 : o2 ≤ 9223372036854775807) (b30 : -9223372036854775808 ≤ o3) (b31 : o3 ≤ 9223372036854775807) :
    Calls Try.prog 55 #[.pointer (some ⟨pb, 0, none⟩), .agg #[.int .i64 o0, .int .i64 o1, .int .i64 o2, .int .i64 o3], .bool ex] w fun e w' => e = .returned (.bool true) ∧ KInT (kNext T o0 o1 o2 o3) w0 w' pb (n + 1) := by
  by_cases h1 : o0 = 1
  · subst h1; exact tstep_malloc T w0 pb n o1 o2 o3 ex w h hn b10 b11 b20 b21 b30 b31
  by_cases h2 : o0 = 2
  · subst h2; exact tstep_free T w0 pb n o1 o2 o3 ex w h hn b10 b11 b20 b21 b30 b31
  by_cases h3 : o0 = 3
  · subst h3; exact tstep_write T w0 pb n o1 o2 o3 ex w h hn b10 b11 b20 b21 b30 b31
  by_cases h4 : o0 = 4
  · subst h4; exact tstep_realloc T w0 pb n o1 o2 o3 ex w h hn b10 b11 b20 b21 b30 b31
  exact tstep_other T w0 pb n o0 o1 o2 o3 ex w h hn b10 b11 b20 b21 b30 b31 (by simpa using h1) (by simpa using h2) (by simpa using h3) (by simpa using h4)

set_option maxRecDepth 100000 in
set_option maxHeartbeats 3200000 in
theorem tplays_any (st rest : Int) (cls : List (Int × Int)) (w0 : World) (pb : Nat) (ta : Option Addr) (tlen tcap : Nat) (u : Nat → Nat → Int) (ex : Bool) (w : World) (h : KNewT st rest cls w0 w pb) (hs : TRow w0 ta tlen tcap u) (hl : tlen ≤ 1048576) :
    Calls Try.prog 23 #[.pointer (some ⟨pb, 0, none⟩), .slice ta tlen tcap, .bool ex] w fun e w' => e = .returned (.bool true) ∧ KInT (kAfter st rest cls u tlen) w0 w' pb (tlen + 1) := by
  obtain ⟨ph, gc, bb, G, vc, hK, hok, hbl, hft⟩ := h
  have HM0 : Hid ((mOut ⟨st, rest, cls, [], []⟩ 1 0).2 = 0) := mOut_first hok.simb.sim.rok
  have HS := hide2 hs
  have HFT := hide2 hft
  have hmax := hs.cap
  have hcap := hs.len
  unfold maxLen at hmax
  have HK := hide2 hK
  have hpb := hK.blk.lt
  have c6 := hK.blk.cell (j := 6) rfl
  have f6 := hK.blk.frozen 6
  have HBL := hide2 hbl
  have HOK1 := hide2 (hok.at_now 1)
  clear hok hbl hft hK hs
  go_enter Try.func23, Try.ntmps23
  go_wp2_with fail
  obtain ⟨w1, hw1⟩ : ∃ w1, w1 = w.setCell ⟨pb, 6, none⟩ (.int .i64 1) := ⟨_, rfl⟩
  rw [← hw1]
  have HK1 : Hid (KRep w1 pb ph gc bb G vc (.slice none 0 0) (.slice none 0 0) ⟨st, rest, cls, [], [], 1⟩) := by
    show KRep _ _ _ _ _ _ _ _ _ _
    rw [hw1]
    exact HK.out.at_now 1
  have HB1 : Hid (Below w0.heap.size w0 w1) := by
    show Below _ _ _
    rw [hw1]
    have hp0 := HFT.out pb (.inl rfl)
    exact HBL.out.trans ⟨rfl, rfl, rfl, by rw [World.size_setCell]; exact Nat.le_refl _, fun k hk => Below.heap_setCell w _ _ k (by show k ≠ pb; omega)⟩
  have hp1 : pb < w1.heap.size := by rw [hw1, World.size_setCell]; exact hpb
  have c3 : w1.cell? ⟨pb, 3, none⟩ = some (.pointer (some ⟨ph, 0, none⟩)) := HK1.out.blk.cell (j := 3) rfl
  have d6 : w1.cell? ⟨pb, 6, none⟩ = some (.int .i64 1) := HK1.out.blk.cell (j := 6) rfl
  have HGP : Hid (¬ GFoot ph gc bb G pb) := fun hx => by
    obtain ⟨col, hs⟩ := HK1.out.sep
    have := hs.g pb hx
    rw [hs.pb] at this; omega
  clear hw1 c6 f6 HK
  go_region_held3 (fun w' => w'.cell? ⟨pb, 3, none⟩ = some (.pointer (some ⟨ph, 0, none⟩)) ∧ w'.cell? ⟨pb, 6, none⟩ = some (.int .i64 1)) (go_keep)
    (first | (go_at_call 29; refine (gmalloc_all ph gc bb G ⟨st, rest, cls, [], []⟩ 1 0 1 w1.drew (HK1.out.heap.kept (fun _ _ => rfl)) HOK1.out.simb.sim).mono ?_; rintro e w2 ⟨rfl, hG2, hk2⟩; have HG2 := hide2 hG2; have HKE := hide2 hk2; have c3' : w2.cell? ⟨pb, 3, none⟩ = some (.pointer (some ⟨ph, 0, none⟩)) := ((World.cell?_of_block (w := w1.drew) (hk2.block pb hp1 HGP.out)).trans c3); have c6' : w2.cell? ⟨pb, 6, none⟩ = some (.int .i64 1) := ((World.cell?_of_block (w := w1.drew) (hk2.block pb hp1 HGP.out)).trans d6); clear hG2 hk2))
  have HKE1 : Hid (Kept w1 w2 (GFoot ph gc bb G)) := ⟨HKE.out.os, HKE.out.tape, HKE.out.output, HKE.out.size, HKE.out.block⟩
  have HK2 := hide2 (HK1.out.goes HG2.out (mG_foot HOK1.out.simb.sim 1 0 1 ph gc bb) HKE1.out)
  clear c3 d6 c3' c6'
  go_wp2_with fail
  refine (kcame_any pb ph gc bb G (mG G ⟨st, rest, cls, [], []⟩ 1 0 1) ⟨st, rest, cls, [], []⟩ vc (.slice none 0 0) (.slice none 0 0) ⟨st, rest, cls, [], [], 1⟩ 1 0 w2 HK2.out HOK1.out (by show 0 ≤ _; omega)).mono ?_
  rintro e w3 ⟨rfl, hres⟩
  have HRES := hide2 hres
  have HFIN : Hid (KInT (kAfter st rest cls u 0) w0 w3 pb 1) := by
    have hsz1 := HB1.out.size
    have hb2 : Below w0.heap.size w0 w2 := HB1.out.trans (HKE1.out.to_below HB1.out.size (fun b hb => HFT.out b (.inr (.inr (.inl hb)))))
    have hgf := mG_foot HOK1.out.simb.sim 1 0 1 ph gc bb
    rcases HRES.out with ⟨he, rfl⟩ | ⟨vL', wb, k, s, h1, hk, hkl, hf, hs, hz, hm, hK3, hk3, hn3, hwb⟩
    · exact absurd HM0.out he
    · have hb3 : Below w0.heap.size w0 w3 := hb2.trans (hk3.to_below hb2.size (fun b hb => by
        rcases hb with hb | hb
        · exact HFT.out b (.inl hb)
        · exact HFT.out b (.inr (.inr (.inr (.inl hb))))))
      have hs2 := hb2.size
      refine ⟨ph, gc, bb, _, _, vc, vL', _, _, hK3, HOK1.out.malloc 1 0 1 1 rfl wb k s h1 hk hkl hf hs hz hm, ⟨wb, k, s, hk, hf, rfl, rfl⟩, by show ([] ++ [_] : List KBlk).length ≤ _; simp, by show ([] : List (Int × Int)).length ≤ _; simp, by show (0 : Int) ≤ 1; omega, by show (1 : Int) ≤ _; omega, hb3, fun b hb => ?_⟩
      rcases hb with hb | hb | hb | hb | hb | ⟨i, hi, hb⟩
      · exact HFT.out b (.inl hb)
      · exact HFT.out b (.inr (.inl hb))
      · exact HFT.out b (.inr (.inr (.inl ((hgf b).1 hb))))
      · rcases hn3 b hb with hb | hb
        · cases hb
        · omega
      · cases hb
      · change i < ([] ++ [_] : List KBlk).length at hi
        change b = (([] ++ [_] : List KBlk).getD i KBlk.no).wb at hb
        obtain rfl : i = 0 := by simp at hi; omega
        rw [hb]
        show w0.heap.size ≤ wb
        omega
  clear HRES hres
  rw [HM0.out]
  go_wp2_with fail
  clear HK1 HK2 HKE HKE1 HG2 HGP HB1 HOK1 HM0 HFT HBL
  go_loopw [10] (fun i wr => ∃ n : Nat, n ≤ tlen ∧ i = .int .i64 (n : Int) ∧ KInT (kAfter st rest cls u n) w0 wr pb (n + 1)) (fun i _ => ((tlen : Int) - intOf i).toNat)
  case atStart => exact ⟨0, by omega, rfl, HFIN.out⟩
  case round =>
    obtain ⟨n, hn, rfl, hT⟩ := hrel
    have HT := hide2 hT
    clear hT
    by_cases hlt : n < tlen
    · have hl2 : (n : Int) < (tlen : Int) := by omega
      have h0 : (0 : Int) ≤ (n : Int) := by omega
      obtain ⟨g, off, hsa, hgl, hcell⟩ := HS.out.cells (by omega)
      subst hsa
      have HBE : Hid (Below w0.heap.size w0 wr) := by
        obtain ⟨_, _, _, _, _, _, _, _, _, _, _, _, _, _, _, _, hb, _⟩ := HT.out
        exact hb
      have e0 : wr.cell? ⟨g, off + n * 4, none⟩ = some (.int .i64 (u n 0)) := (HBE.out.cell (p := ⟨g, off + n * 4, none⟩) hgl).trans (hcell n hlt 0 (by omega))
      have e1 := (HBE.out.cell (p := ⟨g, off + n * 4 + 1, none⟩) hgl).trans (hcell n hlt 1 (by omega))
      have e2 := (HBE.out.cell (p := ⟨g, off + n * 4 + 2, none⟩) hgl).trans (hcell n hlt 2 (by omega))
      have e3 := (HBE.out.cell (p := ⟨g, off + n * 4 + 3, none⟩) hgl).trans (hcell n hlt 3 (by omega))
      have B1 := HS.out.bd n hlt 1 (by omega)
      have B2 := HS.out.bd n hlt 2 (by omega)
      have B3 := HS.out.bd n hlt 3 (by omega)
      clear hcell
      have HNX : Hid (kAfter st rest cls u (n + 1) = kNext (kAfter st rest cls u n) (u n 0) (u n 1) (u n 2) (u n 3)) := rfl
      generalize u n 0 = o0 at *
      generalize u n 1 = o1 at *
      generalize u n 2 = o2 at *
      generalize u n 3 = o3 at *
      have HB := hide2 (And.intro B1 (And.intro B2 B3))
      clear B1 B2 B3
      go_wp2_with fail
      refine (tstep_any (kAfter st rest cls u n) w0 pb (n + 1) o0 o1 o2 o3 ex wr HT.out (by omega) HB.out.1.1 HB.out.1.2 HB.out.2.1.1 HB.out.2.1.2 HB.out.2.2.1 HB.out.2.2.2).mono ?_
      rintro e w4 ⟨rfl, hi⟩
      have HI := hide2 hi
      clear hi e0 e1 e2 e3
      go_wp2
      go_roundw
      case rel => exact ⟨n + 1, by omega, by go_num, by rw [HNX.out]; exact HI.out⟩
      case measure => simp [intOf]; omega
    · obtain rfl : n = tlen := by omega
      go_wp2
      go_ret
      exact ⟨rfl, HT.out⟩
end Go.Proofs.Ytjikemhmnkckcaa
