import Derived.Test.YtjikemhmnkckcaaJ52
import Derived.Test.YtjikemhmnkckcaaJ53
import Derived.Deep.CutRange
/- Chance: eleven runs. -/
namespace Go.Proofs.Ytjikemhmnkckcaa
open Go.RowKit
attribute [local go_sem ↓] Go.wp_at_zero Go.wp_at_succ

theorem KStep.len {o0 o1 o2 o3 : Int} {R R' : RSt} {B B' : KSt} (h : KStep o0 o1 o2 o3 R B R' B') : B.L.length ≤ B'.L.length := by
  cases h with
  | none _ _ => exact Nat.le_refl _
  | dead _ _ _ _ _ => exact Nat.le_refl _
  | other _ => exact Nat.le_refl _
  | full _ _ => exact Nat.le_refl _
  | refull _ _ _ _ _ _ => exact Nat.le_refl _
  | gives _ _ _ _ _ _ _ => show B.L.length ≤ (B.L ++ [_]).length; simp
  | frees _ i _ _ _ => show B.L.length ≤ (B.L.set i _).length; rw [List.length_set]; exact Nat.le_refl _
  | writes _ i _ _ _ _ _ => show B.L.length ≤ (B.L.set i _).length; rw [List.length_set]; exact Nat.le_refl _
  | regives _ i _ _ _ _ _ _ _ _ _ => show B.L.length ≤ (((B.L ++ [_]).set _ _).set i _).length; rw [List.length_set, List.length_set]; simp
theorem kAfter_pos {st rest : Int} {cls : List (Int × Int)} {u : Nat → Nat → Int} (n : Nat) : ∀ {R : RSt} {B : KSt}, kAfter st rest cls u n R B → 1 ≤ B.L.length := by
  induction n with
  | zero =>
    rintro R B ⟨wb, k, s, _, _, _, rfl⟩
    show 1 ≤ ([] ++ [_] : List KBlk).length
    simp
  | succ n ih =>
    rintro R B ⟨R0, B0, h1, g1⟩
    exact Nat.le_trans (ih h1) g1.len
theorem wrap_bd (x : Int) : -9223372036854775808 ≤ wrap64 x ∧ wrap64 x ≤ 9223372036854775807 := by unfold wrap64; omega
/-- What the loop holds behind m rounds. -/
def ChIn (T : RSt → KSt → Prop) (ip : Int) (off size D : Int) (m : Nat) (pas at_ : Int) (ins : Bool) : Prop :=
  (m = 0 ∧ pas = 0 ∧ at_ = 0 ∧ ins = false) ∨ (1 ≤ m ∧ ∃ G R B, T R B ∧ SimB G R ∧ pas = (cntTo (chOk R size D (wrap64 ((B.L.getD (kpick ip B.L.length).toNat KBlk.no).p + off))) m : Int) ∧ at_ = chAt R size D ∧ ins = chIn R size D (wrap64 ((B.L.getD (kpick ip B.L.length).toNat KBlk.no).p + off)))

set_option maxRecDepth 100000 in
set_option maxHeartbeats 6400000 in
theorem chance_any (st rest : Int) (a : Option Addr) (cap : Nat) (cls : List (Int × Int)) (ta : Option Addr) (tlen tcap : Nat) (u : Nat → Nat → Int) (ip off size draw : Int) (w : World) (h : CRow w a cap cls) (b0 : -9223372036854775808 ≤ st) (b1 : st ≤ 9223372036854775807) (b2 : -9223372036854775808 ≤ rest) (b3 : rest ≤ 9223372036854775807) (hs : TRow w ta tlen tcap u) (hl : tlen ≤ 1048576)
    (i0 : -9223372036854775808 ≤ ip) (i1 : ip ≤ 9223372036854775807) (w0 : -9223372036854775808 ≤ draw) (w1 : draw ≤ 9223372036854775807) :
    Calls Try.prog 11 #[.agg #[.int .i64 st, .int .i64 rest, .slice a cls.length cap], .slice ta tlen tcap, .int .i64 ip, .int .i64 off, .int .i64 size, .int .i64 draw] w fun e w' => e = .returned (.bool true) ∧ Below w.heap.size w w' := by
  have HC := hide2 h
  have HS := hide2 hs
  have HBB := hide2 (And.intro (And.intro b0 b1) (And.intro b2 b3))
  have HIB := hide2 (And.intro (And.intro i0 i1) (And.intro w0 w1))
  have hD := kpick_bd draw 12012 (by omega)
  obtain ⟨D, HDE⟩ : ∃ D, Hid (kpick draw 12012 = D) := ⟨_, hide2 rfl⟩
  rw [HDE.out] at hD
  obtain ⟨T, HTE⟩ : ∃ T, Hid (kAfter (kpick st 17) (kpick rest 17) (kfit cls) u tlen = T) := ⟨_, hide2 rfl⟩
  have HDET : Hid (∀ {R1 R2 : RSt} {B C : KSt}, T R1 B → T R2 C → R1 = R2 ∧ KSame B C) := by rw [← HTE.out]; exact fun h1 h2 => kAfter_det tlen h1 h2
  have HPOS : Hid (∀ {R : RSt} {B : KSt}, T R B → 1 ≤ B.L.length) := by rw [← HTE.out]; exact fun h1 => kAfter_pos tlen h1
  clear h hs b0 b1 b2 b3 i0 i1 w0 w1
  go_enter Try.func11, Try.ntmps11
  go_wp2_with fail
  obtain ⟨wa, hwa⟩ : ∃ wa, wa = w.alloc (.cells #[.int .i64 st, .int .i64 rest, .slice a cls.length cap] 24) := ⟨_, rfl⟩
  rw [← hwa]
  have HBA : Hid (Below w.heap.size w wa) := by show Below _ _ _; rw [hwa]; exact (Below.refl _ _).alloc (Nat.le_refl _) _
  have HCA : Hid (Blk wa w.heap.size 24 [.int .i64 st, .int .i64 rest, .slice a cls.length cap]) := by show Blk _ _ _ _; rw [hwa]; exact Blk.alloc _ _ _
  have hca := HCA.out.lt
  clear hwa
  go_loopw [13, 14, 15, 16] (fun v13 v14 v15 v16 wr => ∃ (m : Nat) (pas at_ : Int) (ins : Bool), m ≤ 11 ∧ v13 = .int .i64 pas ∧ v14 = .int .i64 at_ ∧ v15 = .bool ins ∧ v16 = .int .i64 (m : Int) ∧ Hid (ChIn T ip off size D m pas at_ ins) ∧ Hid (Below wa.heap.size wa wr)) (fun _ _ _ v16 _ => 11 - (intOf v16).toNat)
  case atStart => exact ⟨0, 0, 0, false, by omega, rfl, rfl, rfl, rfl, .inl ⟨rfl, rfl, rfl, rfl⟩, Below.refl _ _⟩
  case round =>
    obtain ⟨m, pas, at_, ins, hm, rfl, rfl, rfl, rfl, HCI, HBW⟩ := hrel
    by_cases hlt : m < 11
    · have hmI : (m : Int) < 11 := by omega
      have HCW := hide2 (HCA.out.below HBW.out hca)
      have c0 := HCW.out.cell (j := 0) rfl
      have c1 := HCW.out.cell (j := 1) rfl
      have c2 := HCW.out.cell (j := 2) rfl
      have HBWR : Hid (Below w.heap.size w wr) := HBA.out.trans (HBW.out.mono HBA.out.size)
      go_upto_region 8 with (go_at_call 22; refine (topen_any st rest a cap cls wr (HC.out.below HBWR.out) HBB.out.1.1 HBB.out.1.2 HBB.out.2.1 HBB.out.2.2).mono ?_; rintro e w1 ⟨pb, rfl, hn⟩; have HN := hide2 hn; clear hn)
      clear c0 c1 c2
      go_upto_region 13 with (go_at_call 23; refine (tplays_any (kpick st 17) (kpick rest 17) (kfit cls) wr pb ta tlen tcap u false w1 HN.out (HS.out.below HBWR.out) hl).mono ?_; rw [HTE.out]; rintro e w2 ⟨rfl, hi⟩; have HI := hide2 hi; clear hi)
      have HB2W : Hid (Below wr.heap.size wr w2) := by obtain ⟨_, _, _, _, _, _, _, _, _, _, _, _, _, _, _, _, hb, _⟩ := HI.out; exact hb
      obtain ⟨ph, gc, bb, G, R, vc, vL, vF, B, hK, hok, hT, hL, hF, n0, n1, hbl, hft⟩ := HI.out
      have HK := hide2 hK
      have HOK := hide2 hok
      have HT := hide2 hT
      have hpos := HPOS.out hT
      have hpb := hK.blk.lt
      have hlen : B.L.length ≤ 1048577 := by omega
      obtain ⟨al, capL, hvL, hcapL, hmaxL, hrow⟩ := row_open hK.L
      subst hvL
      obtain ⟨g, hga, hgl, hcell, hfrz⟩ := hrow (by omega)
      subst hga
      unfold maxLen at hmaxL
      have hkb := kpick_bd ip B.L.length (by omega)
      obtain ⟨j, hje⟩ := Int.eq_ofNat_of_zero_le hkb.1
      have hj : j < B.L.length := by omega
      have hjI : (j : Int) < (B.L.length : Int) := by omega
      have HJE := hide2 hje
      obtain ⟨l0, -, -, -, -, -, -⟩ := kblk_cells hcell j hj
      have c3 := hK.blk.cell (j := 3) rfl
      have c4 := hK.blk.cell (j := 4) rfl
      have HPE : Hid ((B.L.getD (kpick ip B.L.length).toNat KBlk.no).p = (B.L.getD j KBlk.no).p) := by show _ = _; rw [hje, Int.toNat_natCast]
      generalize (B.L.getD j KBlk.no).p = pj at *
      have hwr := wrap_bd (pj + off)
      generalize hpp : wrap64 (pj + off) = pp at *
      have hpp2 : IntKind.i64.wrap (pj + off) = pp := by rw [IntKind.wrap_i64]; unfold wrap64 at hpp; exact hpp
      have hlz : (0 : Int) < (B.L.length : Int) := by omega
      have HFT := hide2 hft
      clear hK hok hT hrow hcell hfrz hkb hje HI HN hL hF n0 n1 hbl hft
      go_region_held3 (fun w' => w'.cell? ⟨pb, 4, none⟩ = some (.slice (some ⟨g, 0, none⟩) B.L.length capL) ∧ w'.cell? ⟨g, j * 7, none⟩ = some (.int .i64 pj)) (go_keep)
        (first | (go_at_call 28; refine (kpick_any ip (B.L.length : Int) w2.drew hlz HIB.out.1.1 HIB.out.1.2).mono ?_; rw [HJE.out]; rintro e3 w3 ⟨rfl, hwd⟩; have HWD := hide2 hwd; have k4 : w3.cell? ⟨pb, 4, none⟩ = some (.slice (some ⟨g, 0, none⟩) B.L.length capL) := (by rw [← hwd]; exact c4); have kl : w3.cell? ⟨g, j * 7, none⟩ = some (.int .i64 pj) := (by rw [← hwd]; exact l0); clear hwd))
      have HX3 : Hid (Below w2.heap.size w2 w3) := by show Below _ _ _; rw [← HWD.out]; exact (Below.refl _ _).drew
      have HK3 := hide2 (HK.out.below HX3.out)
      have k3 := HK3.out.blk.cell (j := 3) rfl
      have hp3 := HK3.out.blk.lt
      clear c3 c4 l0 k4 kl HWD HK hpb
      have hlast : pas = (cntTo (chOk R size D pp) m : Int) ∧ (0 < m → at_ = chAt R size D) := by
        rcases HCI.out with ⟨e0, e1, e2, e3⟩ | ⟨e0, G2, R2, B2, t2, s2, e1, e2, e3⟩
        · subst e0
          exact ⟨e1, fun e => absurd e (by omega)⟩
        · obtain ⟨hR, hB⟩ := HDET.out t2 HT.out
          subst hR
          have hx := bare_p (hB.get (kpick ip B.L.length).toNat)
          rw [HPE.out] at hx
          rw [hB.len, hx, hpp] at e1
          exact ⟨e1, fun _ => e2⟩
      have HLA := hide2 hlast
      have HCA0 := hide2 (chance_at HOK.out.simb size D hD.1 m)
      have hz12 : (0 : Int) < 12012 := by omega
      have hmo := mOut_bd HOK.out.simb.sim.rok size (D + m)
      have HSMB := hide2 (HOK.out.simb.malloc size (D + m) 0)
      have HGF := hide2 (mG_foot HOK.out.simb.sim size (D + m) 0 ph gc bb)
      have HGP : Hid (¬ GFoot ph gc bb G pb) := fun hx => by
        obtain ⟨col, hs⟩ := HK3.out.sep
        have := hs.g pb hx
        rw [hs.pb] at this; omega
      have hDm : IntKind.i64.wrap (D + (m : Int)) = D + (m : Int) := by rw [IntKind.wrap_i64]; omega
      have HB3W : Hid (Below wa.heap.size wa w3) := (HBW.out.trans (HB2W.out.mono HBW.out.size)).trans (HX3.out.mono (by have := HBW.out.size; have := HB2W.out.size; omega))
      clear hlast HCI HB2W HX3
      go_upto_region 14 with (fail)
      go_cut [20, 21] from 28 to 118 (fun s20 s21 w' => s20 = .int .i64 (mOut R size (D + (m : Int))).1 ∧ s21 = .int .i64 (mOut R size (D + (m : Int))).2 ∧ Hid (GRep w' ph gc bb (mG G R size (D + (m : Int)) 0)) ∧ Hid (Kept w3.drew w' (GFoot ph gc bb G)))
      case first =>
        go_region_held3 (fun w' => w'.cell? ⟨pb, 3, none⟩ = some (.pointer (some ⟨ph, 0, none⟩))) (go_keep)
          (first
            | (go_at_call 28; refine (kpick_any draw 12012 w3.drew hz12 HIB.out.2.1 HIB.out.2.2).mono ?_; rw [HDE.out]; rintro e4 w4 ⟨rfl, rfl⟩; have k3b : w3.drew.cell? ⟨pb, 3, none⟩ = some (.pointer (some ⟨ph, 0, none⟩)) := k3)
            | (go_at_call 29; refine (gmalloc_all ph gc bb G R size (D + (m : Int)) 0 w3.drew (HK3.out.heap.kept (fun _ _ => rfl)) HOK.out.simb.sim).mono ?_; rintro e5 w5 ⟨rfl, hG5, hk5⟩; have HG5 := hide2 hG5; have HKE := hide2 hk5; have k3c : w5.cell? ⟨pb, 3, none⟩ = some (.pointer (some ⟨ph, 0, none⟩)) := ((World.cell?_of_block (w := w3.drew) (hk5.block pb hp3 HGP.out)).trans k3); clear hG5 hk5))
        all_goals go_wp2
        all_goals go_meet
        all_goals (case rel => exact ⟨rfl, rfl, HG5, HKE⟩)
      obtain ⟨rfl, rfl, HG5, HKE⟩ := hcut
      obtain ⟨w5, hw5⟩ : ∃ w5, w5 = wc := ⟨_, rfl⟩
      rw [← hw5] at HG5 HKE ⊢
      clear hw5
      have HKE1 : Hid (Kept w3 w5 (GFoot ph gc bb G)) := ⟨HKE.out.os, HKE.out.tape, HKE.out.output, HKE.out.size, HKE.out.block⟩
      have HK5 := hide2 (HK3.out.goes HG5.out HGF.out HKE1.out)
      have HB5W : Hid (Below wa.heap.size wa w5) := HB3W.out.trans (HKE1.out.to_below HB3W.out.size (fun b hb => by have h1 := HFT.out b (.inr (.inr (.inl hb))); have h2 := HBW.out.size; omega))
      go_upto_region 16 with (go_at_call 30; refine (kcame_any pb ph gc bb G (mG G R size (D + (m : Int)) 0) R vc _ vF B size (D + (m : Int)) w5 HK5.out HOK.out (by omega)).mono ?_; rintro e6 w6 ⟨rfl, hres⟩; have HRES := hide2 hres; clear hres)
      have HG6 : Hid (GRep w6 ph gc bb (mG G R size (D + (m : Int)) 0) ∧ Below wa.heap.size wa w6 ∧ w6.cell? ⟨pb, 3, none⟩ = some (.pointer (some ⟨ph, 0, none⟩))) := by
        rcases HRES.out with ⟨he, rfl⟩ | ⟨vL', wb, k, s, h1, hk, hkl, hf, hs, hz, hm, hK6, hk6, hn6, hwb⟩
        · exact ⟨HK5.out.heap, HB5W.out, HK5.out.blk.cell (j := 3) rfl⟩
        · exact ⟨hK6.heap, HB5W.out.trans (hk6.to_below HB5W.out.size (fun b hb => by
            have h2 := HBW.out.size
            rcases hb with hb | hb
            · have h1 := HFT.out b (.inl hb); omega
            · have h1 := HFT.out b (.inr (.inr (.inr (.inl hb)))); omega)), hK6.blk.cell (j := 3) rfl⟩
      have HSZ : Hid ((mOut R size D).2 = 0 → 1 ≤ size ∧ size ≤ 128) := fun he => by
        rcases chance_cases HOK.out.simb size D hD.1 with h | ⟨k, s, h1, h2, _⟩
        · exact absurd he (h 0).2
        · exact ⟨h1, h2⟩
      have HFX : Hid (ChIn T ip off size D (m + 1) (cntTo (chOk R size D pp) (m + 1) : Int) (chAt R size D) (chIn R size D pp)) := by
        refine .inr ⟨by omega, G, R, B, HT.out, HOK.out.simb, ?_, rfl, ?_⟩
        · rw [HPE.out, hpp]
        · rw [HPE.out, hpp]
      have HCO : Hid (chOk R size D pp m = decide (((mR R size (D + (m : Int)) 0).load pp 1).2 = 0)) := rfl
      have HCS : Hid (cntTo (chOk R size D pp) (m + 1) = cntTo (chOk R size D pp) m + if chOk R size D pp m = true then 1 else 0) := rfl
      have HCIN : Hid (chIn R size D pp = (decide ((mOut R size D).2 = 0) && decide (0 ≤ pp) && decide (chAt R size D ≤ pp % 72057594037927936) && decide (pp % 72057594037927936 < chAt R size D + 16 * Ref.gsz size))) := rfl
      have HLD : Hid (∀ wx, GRep wx ph gc bb (mG G R size (D + (m : Int)) 0) → Calls Try.prog 32 #[.pointer (some ⟨ph, 0, none⟩), .int .i64 pp, .int .i64 1] wx fun e w' => e = .returned (.tuple #[.int .i64 ((mR R size (D + (m : Int)) 0).load pp 1).1, .int .i64 ((mR R size (D + (m : Int)) 0).load pp 1).2]) ∧ Below wx.heap.size wx w') := fun wx hx => gload_any ph gc bb _ _ pp 1 wx hx HSMB.out hwr.2
      have hat0 : 0 ≤ chAt R size D ∧ chAt R size D < 72057594037927936 := by unfold chAt; omega
      obtain ⟨hq1, hq2⟩ := HCA0.out
      clear HCA0
      generalize (mOut R size (D + (m : Int))).1 = q at *
      generalize hee : (mOut R size (D + (m : Int))).2 = er at *
      generalize (mOut R size D).2 = er0 at *
      have hle := cntTo_le (chOk R size D pp) m
      generalize chAt R size D = A at *
      generalize hci : chIn R size D pp = ci at *
      generalize hld1 : ((mR R size (D + (m : Int)) 0).load pp 1).1 = lv at *
      generalize hld2 : ((mR R size (D + (m : Int)) 0).load pp 1).2 = le at *
      generalize hck : chOk R size D pp m = ck at *
      generalize hcn : cntTo (chOk R size D pp) m = cn at *
      generalize hcn1 : cntTo (chOk R size D pp) (m + 1) = cn1 at *
      have HFIX := hide2 (And.intro hci (And.intro hld1 (And.intro hld2 (And.intro hck (And.intro hcn hcn1)))))
      clear hci hld1 hld2 hck hcn hcn1 hee
      have hrm : Int.tmod q 72057594037927936 = A := by rw [Int.tmod_eq_emod_of_nonneg hmo.1]; exact hq1
      clear HRES HK5 HK3 HKE HKE1 HG5 HB5W HB3W HGF HGP HSMB HOK HT HFT k3
      obtain ⟨hpas, hatm⟩ := HLA.out
      subst hpas
      subst hq2
      have HATM := hide2 hatm
      clear HLA hatm hq1 HDET HPOS HTE HDE HIB HBB HC HS HFIX
      go_cut [82] from 28 to 118 (fun s82 w' => s82 = .bool false ∧ w' = w6)
      case first =>
        by_cases hm0 : 0 < m
        · have hm0I : (0 : Int) < (m : Int) := by omega
          have he := HATM.out hm0
          subst he
          clear hm0 HATM
          go_wp2
          go_meet
          case rel => exact ⟨rfl, rfl⟩
        · have hm0I : ¬ (0 : Int) < (m : Int) := by omega
          clear hm0
          go_wp2
          go_meet
          case rel => exact ⟨rfl, rfl⟩
      case rest =>
        obtain ⟨hs82, hwc⟩ := hcut
        subst hs82
        subst hwc
        go_upto_region 19 with (fail)
        go_cut [15] from 28 to 118 (fun s15 w' => s15 = .bool ci ∧ w' = wc)
        case first =>
          by_cases he : er = 0
          · have hsz := HSZ.out he
            by_cases hp0 : 0 ≤ pp
            · have hpm : Int.tmod pp 72057594037927936 = pp % 72057594037927936 := Int.tmod_eq_emod_of_nonneg hp0
              have hpmb : 0 ≤ pp % 72057594037927936 ∧ pp % 72057594037927936 < 72057594037927936 := by omega
              generalize pp % 72057594037927936 = pm at *
              by_cases hge : A ≤ pm
              · have hcv : ci = decide (pm < A + 16 * Ref.gsz size) := by rw [HCIN.out]; simp [he, hp0, hge]
                have hgs : 0 ≤ 16 * Ref.gsz size ∧ 16 * Ref.gsz size ≤ 1000 := by unfold Ref.gsz; omega
                have HWH : Hid (∀ wx, Calls Try.prog 31 #[.int .i64 size] wx fun e w' => e = .returned (.int .i64 (16 * Ref.gsz size)) ∧ wx = w') := fun wx => kwhole_any size wx hsz.1 hsz.2
                generalize 16 * Ref.gsz size = gz at *
                subst he
                have HCV := hide2 hcv
                clear hcv hsz
                go_wp2_with (go_at_call 31; refine (HWH.out _).mono ?_; rintro e7 w7 ⟨rfl, rfl⟩)
                all_goals go_meet
                all_goals (case rel => exact ⟨by first | (rw [HCV.out]; done) | (rw [HCV.out]; rfl) | (rw [HCV.out]; simp), rfl⟩)
              · have hcv : ci = false := by rw [HCIN.out]; simp [hge]
                subst he
                have HCV := hide2 hcv
                clear hcv hsz
                go_wp2
                go_meet
                case rel => exact ⟨by rw [HCV.out], rfl⟩
            · have hcv : ci = false := by rw [HCIN.out]; simp [hp0]
              subst he
              have HCV := hide2 hcv
              clear hcv hsz
              go_wp2
              go_meet
              case rel => exact ⟨by rw [HCV.out], rfl⟩
          · have hcv : ci = false := by rw [HCIN.out]; simp [he]
            have heb : (er == 0) = false := by rw [beq_eq_false_iff_ne]; exact he
            have HCV := hide2 hcv
            clear hcv he
            go_wp2
            go_meet
            case rel => exact ⟨by rw [HCV.out], rfl⟩
        case rest =>
          obtain ⟨hs15, hwd⟩ := hcut
          subst hs15
          subst hwd
          have k3 := HG6.out.2.2
          go_upto_region 21 with (go_at_call 32; refine (HLD.out _ HG6.out.1).mono ?_; rintro e8 w8 ⟨rfl, hb8⟩; have HX8 := hide2 hb8; clear hb8)
          clear k3
          have HB8 : Hid (Below wa.heap.size wa w8) := HG6.out.2.1.trans (HX8.out.mono HG6.out.2.1.size)
          by_cases hl0 : le = 0
          · have hcn : (cn : Int) + 1 = (cn1 : Int) := by
              have h1 := HCS.out
              rw [HCO.out, hl0] at h1
              simp at h1
              omega
            have HCN := hide2 hcn
            subst hl0
            clear hcn
            go_wp2
            go_roundw
            case rel => exact ⟨m + 1, cn1, A, ci, by omega, by rw [← HCN.out], rfl, rfl, by go_num, HFX, HB8⟩
            case measure => simp [intOf]; omega
          · have hcn : cn1 = cn := by
              have h1 := HCS.out
              rw [HCO.out] at h1
              simpa [hl0] using h1
            have hlb : (le == 0) = false := by rw [beq_eq_false_iff_ne]; exact hl0
            have HCN := hide2 hcn
            clear hcn hl0
            go_wp2
            go_roundw
            case rel => exact ⟨m + 1, cn1, A, ci, by omega, by rw [HCN.out], rfl, rfl, by go_num, HFX, HB8⟩
            case measure => simp [intOf]; omega
    · obtain rfl : m = 11 := by omega
      have hfin : (ins = true → pas ≤ 1) ∧ (ins = false → pas = 0 ∨ pas = 11) := by
        rcases HCI.out with ⟨e0, _⟩ | ⟨_, G2, R2, B2, t2, s2, e1, e2, e3⟩
        · omega
        · have := chance_math s2 size D (wrap64 ((B2.L.getD (kpick ip B2.L.length).toNat KBlk.no).p + off)) hD.1
          rw [e1, e3]
          exact ⟨fun h => by have := this.1 h; omega, fun h => by have := this.2 h; omega⟩
      have HBX : Hid (Below w.heap.size w wr) := HBA.out.trans (HBW.out.mono HBA.out.size)
      clear HCI hlt hm
      cases ins with
      | true =>
        have h1 := hfin.1 rfl
        clear hfin
        go_wp2
        go_ret
        exact ⟨rfl, HBX.out⟩
      | false =>
        rcases hfin.2 rfl with h1 | h1
        · subst h1
          clear hfin
          go_wp2
          go_ret
          exact ⟨rfl, HBX.out⟩
        · subst h1
          clear hfin
          go_wp2
          go_ret
          exact ⟨rfl, HBX.out⟩
end Go.Proofs.Ytjikemhmnkckcaa
