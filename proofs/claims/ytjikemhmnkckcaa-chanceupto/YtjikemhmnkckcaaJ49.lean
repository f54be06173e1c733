import Derived.Test.YtjikemhmnkckcaaJ46
import Derived.Test.YtjikemhmnkckcaaJ40
import Derived.Test.YtjikemhmnkckcaaJ43
/- The book: Realloc. -/
namespace Go.Proofs.Ytjikemhmnkckcaa
open Go.RowKit

set_option maxRecDepth 100000 in
set_option maxHeartbeats 6400000 in
theorem tgrown_any (T' : RSt → KSt → Prop) (w0 : World) (pb n ph : Nat) (gc : Value) (bb : Nat) (G : GSt) (R : RSt) (vc vL vF : Value) (B : KSt) (i : Nat) (size draw : Int) (w : World) (hK : KRep w pb ph gc bb G vc vL vF B) (hok : KOk B G R) (hi : i < B.L.length) (hlive : (B.L.getD i KBlk.no).live = true)
    (hL : B.L.length ≤ n) (hF : B.F.length ≤ n) (hn : n < 2000000) (n0 : 0 ≤ B.now) (n1 : B.now ≤ n + 1) (hbl : Below w0.heap.size w0 w) (hft : ∀ b, KFoot pb ph gc bb G vc vL vF B.L b → w0.heap.size ≤ b)
    (hT0 : (mOut R size draw).2 ≠ 0 → T' R B) (hT1 : ∀ wb k s : Nat, Ref.cls_ R.cls size = k → Ref.first R.log R.rest R.cls k = (s : Int) → (mOut R size draw).2 = 0 → T' (R.re (B.L.getD i KBlk.no).p size draw B.now) (kgrown B i ⟨(Ref.tagOf R.log k s draw : Int) * 72057594037927936 + Cf.begin_ R.st R.cls k s, k, s, List.replicate (16 * Ref.gsz size).toNat 0, wb, true, B.now, 0⟩)) :
    Calls Try.prog 96 #[.pointer (some ⟨pb, 0, none⟩), .int .i64 (i : Int), .int .i64 size, .int .i64 draw] w fun e w' => e = .returned (.tuple #[.int .i64 (mOut R size draw).2, .bool true]) ∧ KInT T' w0 w' pb (n + 1) := by
  have HT0 := hide2 hT0
  have HT1 := hide2 hT1
  clear hT0 hT1
  obtain ⟨k0, s0, hli⟩ := hok.live i hi hlive
  have hbd := hli.bd hok.simb
  have hpp := hli.p
  have hbad : ¬ R.reBad (B.L.getD i KBlk.no).p := fun y => y.2 (by rw [hli.block hok.simb])
  have HRO : Hid (R.reOut (B.L.getD i KBlk.no).p size draw = mOut R size draw) := if_neg hbad
  have HRE0 : Hid ((mOut R size draw).2 ≠ 0 → reG G R (B.L.getD i KBlk.no).p size draw B.now = G) := fun he => by
    unfold reG; rw [if_neg hbad, if_pos (.inl he)]; exact if_neg he
  have HPB : Hid ((B.L.getD i KBlk.no).p ≤ 9223372036854775807) := by show _ ≤ _; omega
  have HOK := hide2 hok
  have HBL := hide2 hbl
  have HFT := hide2 hft
  have HK := hide2 hK
  have hpb := hK.blk.lt
  obtain ⟨al, cap, hvL, hcap, hmax, hrow⟩ := row_open hK.L
  subst hvL
  obtain ⟨g, rfl, hgl, hcell, hfrz⟩ := hrow (by omega)
  unfold maxLen at hmax
  have hiI : (i : Int) < (B.L.length : Int) := by omega
  obtain ⟨l0, _, _, _, _, _, _⟩ := kblk_cells hcell i hi
  have c3 := hK.blk.cell (j := 3) rfl
  have c4 := hK.blk.cell (j := 4) rfl
  have c6 := hK.blk.cell (j := 6) rfl
  have HGP : Hid (¬ GFoot ph gc bb G pb) := fun hx => by
    obtain ⟨col, hs⟩ := hK.sep
    have := hs.g pb hx
    rw [hs.pb] at this; omega
  have HGG : Hid (¬ GFoot ph gc bb G g) := fun hx => by
    obtain ⟨col, hs⟩ := hK.sep
    have h1 := hs.g g hx
    have h2 := hs.vL g rfl
    omega
  clear hrow hcell hfrz hK hok hbl hft hli hbd hpp hbad
  obtain ⟨pp, hpe⟩ : ∃ pp, (B.L.getD i KBlk.no).p = pp := ⟨_, rfl⟩
  have HPE := hide2 hpe
  rw [hpe] at HRO HRE0 HPB l0
  clear hpe
  have HREAL : Hid (∀ w1, GRep w1 ph gc bb G → Calls Try.prog 108 #[.pointer (some ⟨ph, 0, none⟩), .int .i64 pp, .int .i64 size, .int .i64 draw, .int .i64 B.now] w1 fun e w' => e = .returned (.tuple #[.int .i64 (mOut R size draw).1, .int .i64 (mOut R size draw).2]) ∧ GRep w' ph gc bb (reG G R pp size draw B.now) ∧ Kept w1 w' (GFoot ph gc bb G)) := fun w1 hw1 => by
    have := greal_any ph gc bb G R pp size draw B.now w1 hw1 HOK.out.simb HPB.out
    rw [HRO.out] at this
    exact this
  go_enter Try.func96, Try.ntmps96
  go_wp2_with fail
  go_region_held3 (fun w' => w'.cell? ⟨pb, 3, none⟩ = some (.pointer (some ⟨ph, 0, none⟩)) ∧ w'.cell? ⟨pb, 4, none⟩ = some (.slice (some ⟨g, 0, none⟩) B.L.length cap) ∧ w'.cell? ⟨pb, 6, none⟩ = some (.int .i64 B.now) ∧ w'.cell? ⟨g, i * 7, none⟩ = some (.int .i64 pp)) (go_keep)
    (first | (go_at_call 108; refine (HREAL.out w.drew (HK.out.heap.kept (fun _ _ => rfl))).mono ?_; rintro e w2 ⟨rfl, hG2, hk2⟩; have HG2 := hide2 hG2; have HKE := hide2 hk2; have c3' : w2.cell? ⟨pb, 3, none⟩ = some (.pointer (some ⟨ph, 0, none⟩)) := ((World.cell?_of_block (w := w.drew) (hk2.block pb hpb HGP.out)).trans c3); have c4' : w2.cell? ⟨pb, 4, none⟩ = some (.slice (some ⟨g, 0, none⟩) B.L.length cap) := ((World.cell?_of_block (w := w.drew) (hk2.block pb hpb HGP.out)).trans c4); have c6' : w2.cell? ⟨pb, 6, none⟩ = some (.int .i64 B.now) := ((World.cell?_of_block (w := w.drew) (hk2.block pb hpb HGP.out)).trans c6); have l0' : w2.cell? ⟨g, i * 7, none⟩ = some (.int .i64 pp) := ((World.cell?_of_block (w := w.drew) (hk2.block g hgl HGG.out)).trans l0); clear hG2 hk2))
  have HKE1 : Hid (Kept w w2 (GFoot ph gc bb G)) := ⟨HKE.out.os, HKE.out.tape, HKE.out.output, HKE.out.size, HKE.out.block⟩
  have HGF : Hid (∀ b, GFoot ph gc bb (reG G R pp size draw B.now) b ↔ GFoot ph gc bb G b) := fun b => reG_foot HOK.out.simb _ _ _ _ ph gc bb b
  have HK2 := hide2 (HK.out.goes HG2.out HGF.out HKE1.out)
  have HB2 : Hid (Below w0.heap.size w0 w2) := HBL.out.trans (HKE1.out.to_below HBL.out.size (fun b hb => HFT.out b (.inr (.inr (.inl hb)))))
  clear c3 c4 c6 l0 c3' c4' c6' l0'
  go_wp2_with fail
  refine (kcame_any pb ph gc bb G (reG G R pp size draw B.now) R vc _ vF B size draw w2 HK2.out HOK.out (by omega)).mono ?_
  rintro e w3 ⟨rfl, hres⟩
  rcases hres with ⟨he, rfl⟩ | ⟨vL', wb, k', s', h1, hk, hkl, hf, hs, hz, hm, hK3, hk3, hn3, hwb⟩
  · have heb : ((mOut R size draw).2 != 0) = true := by simp [he]
    have HFIN : Hid (KInT T' w0 w2 pb (n + 1)) := by
      refine ⟨ph, gc, bb, _, R, vc, _, vF, B, HK2.out, by rw [HRE0.out he]; exact HOK.out, HT0.out he, by omega, by omega, n0, by omega, HB2.out, fun b hb => HFT.out b (KFoot.glt HGF.out hb)⟩
    clear he
    go_wp2
    go_ret2
    exact ⟨rfl, HFIN.out⟩
  · have HM0 : Hid ((mOut R size draw).2 = 0) := by show _ = _; rw [hm]
    obtain ⟨x, hx⟩ : ∃ x : KBlk, x = ⟨(Ref.tagOf R.log k' s' draw : Int) * 72057594037927936 + Cf.begin_ R.st R.cls k' s', k', s', List.replicate (16 * Ref.gsz size).toNat 0, wb, true, B.now, 0⟩ := ⟨_, rfl⟩
    have HOKF := hide2 (HOK.out.realloc i hi hlive size draw B.now B.now rfl rfl wb k' s' h1 hk hkl hf hs hz hm).2
    have HTF := hide2 (HT1.out wb k' s' hk hf HM0.out)
    rw [← hx] at hK3 HOKF HTF
    rw [HPE.out] at HOKF HTF
    have hxw : x.wb = wb := by rw [hx]
    have hxl : x.want.length ≤ 128 := by
      rw [hx]
      show (List.replicate (16 * Ref.gsz size).toNat (0 : Int)).length ≤ 128
      rw [List.length_replicate]
      have := gsz_fit h1 hz
      have := HOK.out.simb.sim.rok.conf.g1 k' hkl
      omega
    have hlast : (B.L ++ [x]).getD B.L.length KBlk.no = x := by rw [getD_appL, if_pos rfl]
    have hgi : (B.L ++ [x]).getD i KBlk.no = B.L.getD i KBlk.no := by rw [getD_appL, if_neg (by omega)]
    have hll : (B.L ++ [x]).length = B.L.length + 1 := by simp
    have HK3 := hide2 hK3
    have HKE3 := hide2 hk3
    have HN3 := hide2 hn3
    obtain ⟨al3, cap3, hv3, hcap3, hmax3, hrow3⟩ := row_open hK3.L
    change vL' = .slice al3 (B.L ++ [x]).length cap3 at hv3
    change (B.L ++ [x]).length ≤ cap3 at hcap3
    rw [hll] at hv3 hcap3
    subst hv3
    obtain ⟨g3, rfl, hgl3, hcell3, _⟩ := hrow3 (by show 0 < (B.L ++ [x]).length; rw [hll]; omega)
    obtain ⟨_, _, _, r3, _, _, _⟩ := kblk_cells hcell3 B.L.length (by show B.L.length < (B.L ++ [x]).length; rw [hll]; omega)
    obtain ⟨_, _, _, q3, _, _, _⟩ := kblk_cells hcell3 i (by show i < (B.L ++ [x]).length; rw [hll]; omega)
    change w3.cell? ⟨g3, B.L.length * 7 + 3, none⟩ = some (.slice (some ⟨((B.L ++ [x]).getD B.L.length KBlk.no).wb, 0, none⟩) ((B.L ++ [x]).getD B.L.length KBlk.no).want.length ((B.L ++ [x]).getD B.L.length KBlk.no).want.length) at r3
    change w3.cell? ⟨g3, i * 7 + 3, none⟩ = some (.slice (some ⟨((B.L ++ [x]).getD i KBlk.no).wb, 0, none⟩) ((B.L ++ [x]).getD i KBlk.no).want.length ((B.L ++ [x]).getD i KBlk.no).want.length) at q3
    rw [hlast] at r3
    rw [hgi] at q3
    have c4 : w3.cell? ⟨pb, 4, none⟩ = some (.slice (some ⟨g3, 0, none⟩) (B.L.length + 1) cap3) := hK3.blk.cell (j := 4) rfl
    have hp3 := hK3.blk.lt
    have hwx : Blk w3 x.wb 3 (x.want.map (Value.int .i64)) := by
      have := hK3.want B.L.length (by show B.L.length < (B.L ++ [x]).length; rw [hll]; omega)
      change Blk w3 ((B.L ++ [x]).getD B.L.length KBlk.no).wb _ (((B.L ++ [x]).getD B.L.length KBlk.no).want.map _) at this
      rw [hlast] at this; exact this
    have hwi : Blk w3 (B.L.getD i KBlk.no).wb 3 ((B.L.getD i KBlk.no).want.map (Value.int .i64)) := by
      have := hK3.want i (by show i < (B.L ++ [x]).length; rw [hll]; omega)
      change Blk w3 ((B.L ++ [x]).getD i KBlk.no).wb _ (((B.L ++ [x]).getD i KBlk.no).want.map _) at this
      rw [hgi] at this; exact this
    have HWX := hide2 hwx
    have HWI := hide2 hwi
    have HXN : Hid (x.wb ≠ pb ∧ x.wb ≠ g3) := by
      obtain ⟨col, hs⟩ := hK3.sep
      have h5 := hs.want B.L.length (by show B.L.length < (B.L ++ [x]).length; rw [hll]; omega)
      change col ((B.L ++ [x]).getD B.L.length KBlk.no).wb = _ at h5
      rw [hlast] at h5
      refine ⟨fun e => ?_, fun e => ?_⟩
      · rw [e, hs.pb] at h5; omega
      · have := hs.vL g3 rfl; rw [e] at h5; omega
    have hb3 : Below w0.heap.size w0 w3 := HB2.out.trans (hk3.to_below HB2.out.size (fun b hb => by
      rcases hb with hb | hb
      · exact HFT.out b (.inl hb)
      · exact HFT.out b (.inr (.inr (.inr (.inl hb))))))
    have HB3 := hide2 hb3
    have hsz2 := HB2.out.size
    have HWBF : Hid (w0.heap.size ≤ x.wb) := by show _ ≤ _; rw [hxw]; omega
    have HS2 := hide2 hsz2
    clear hK3 hk3 hn3 hrow3 hcell3 hwx hwi hb3 hm hx hxw hwb h1 hk hkl hf hs hz hsz2
    -- what is copied
    obtain ⟨cs, hcs⟩ : ∃ cs, cs = ((B.L.getD i KBlk.no).want.take (min (B.L.getD i KBlk.no).want.length x.want.length)).map (Value.int .i64) := ⟨_, rfl⟩
    have HCS := hide2 hcs
    have hcl : cs.length = min (B.L.getD i KBlk.no).want.length x.want.length := by rw [hcs, List.length_map, List.length_take]; omega
    have HCELL : Hid (∀ j v, cs[j]? = some v → w3.drew.cell? ((⟨(B.L.getD i KBlk.no).wb, 0, none⟩ : Addr).add j) = some v) := fun j v hj => by
      rw [World.cell?_drew, show (⟨(B.L.getD i KBlk.no).wb, 0, none⟩ : Addr).add j = ⟨(B.L.getD i KBlk.no).wb, j, none⟩ by simp [Addr.add]; intro e; exact e.symm]
      refine HWI.out.cell ?_
      rw [hcs, List.getElem?_map, List.getElem?_take] at hj
      split at hj
      · rw [List.getElem?_map]; exact hj
      · cases hj
    have HONE : Hid (∀ v ∈ cs, v.oneCell' = true) := fun v hv => by
      rw [hcs] at hv
      obtain ⟨y, _, rfl⟩ := List.mem_map.1 hv
      rfl
    clear hcs
    have hmz : ((mOut R size draw).2 != 0) = false := by rw [HM0.out]; rfl
    have xlt := HWX.out.lt
    obtain ⟨m1, hm1⟩ : ∃ m1, m1 = B.L.length + 1 := ⟨_, rfl⟩
    have HM1 := hide2 hm1
    rw [← hm1] at c4 hcap3
    have hwm : IntKind.i64.wrap ((m1 : Int) - 1) = (B.L.length : Int) := by rw [IntKind.wrap_i64]; omega
    have hlm : (B.L.length : Int) < (m1 : Int) := by omega
    have him : (i : Int) < (m1 : Int) := by omega
    have hl00 : (0 : Int) ≤ (B.L.length : Int) := by omega
    have hi00 : (0 : Int) ≤ (i : Int) := by omega
    clear hm1
    generalize hwie : (B.L.getD i KBlk.no).wb = wbi at *
    generalize hwte : (B.L.getD i KBlk.no).want = wti at *
    have HWIE := hide2 hwie
    have HWTE := hide2 hwte
    clear hwie hwte
    have hxp : x.wb ≠ pb := HXN.out.1
    have hxg : x.wb ≠ g3 := HXN.out.2
    go_wp2_with fail
    go_region_held3 (fun w' => w'.cell? ⟨pb, 4, none⟩ = some (.slice (some ⟨g3, 0, none⟩) m1 cap3) ∧ w'.cell? ⟨g3, B.L.length * 7 + 3, none⟩ = some (.slice (some ⟨x.wb, 0, none⟩) x.want.length x.want.length) ∧ w'.cell? ⟨g3, i * 7 + 3, none⟩ = some (.slice (some ⟨wbi, 0, none⟩) wti.length wti.length)) (go_keep)
      (first | (refine step_copy_keep (by rfl) _ _ _ _ (by rfl) 3 Try.underlying30 (by kernel_rfl) x.wb 0 x.want.length x.want.length ⟨wbi, 0, none⟩ wti.length wti.length (by rfl) (by rfl) (x.want.map (Value.int .i64)) 3 (show Blk w3.drew _ _ _ from HWX.out) cs hcl HCELL.out (by rw [List.length_map]; omega) HONE.out ?_; intro w4 hb4 hk4; have c4' : w4.cell? ⟨pb, 4, none⟩ = some (.slice (some ⟨g3, 0, none⟩) m1 cap3) := ((World.cell?_of_block (w := w3.drew) (hk4.out.block pb hp3 (fun e => hxp e.symm))).trans c4); have r3' : w4.cell? ⟨g3, B.L.length * 7 + 3, none⟩ = some (.slice (some ⟨x.wb, 0, none⟩) x.want.length x.want.length) := ((World.cell?_of_block (w := w3.drew) (hk4.out.block g3 hgl3 (fun e => hxg e.symm))).trans r3); have q3' : w4.cell? ⟨g3, i * 7 + 3, none⟩ = some (.slice (some ⟨wbi, 0, none⟩) wti.length wti.length) := ((World.cell?_of_block (w := w3.drew) (hk4.out.block g3 hgl3 (fun e => hxg e.symm))).trans q3)))
    have hsp : splice (x.want.map (Value.int .i64)) 0 cs = (kcopied x.want wti).map (Value.int .i64) := by
      have h1 := HCS.out
      unfold splice kcopied
      rw [hcl, List.map_append, h1]
      simp only [List.take_zero, List.nil_append, Nat.zero_add, List.map_take, List.map_drop]
    have HK4k : Hid (Kept w3 w4 (· = x.wb)) := ⟨hk4.out.os, hk4.out.tape, hk4.out.output, hk4.out.size, hk4.out.block⟩
    have HB4 : Hid (Blk w4 x.wb 3 ((kcopied x.want wti).map (Value.int .i64))) := by show Blk _ _ _ _; rw [← hsp]; exact hb4.out
    have HR4 : Hid (KRep w4 pb ph gc bb (reG G R pp size draw B.now) vc (.slice (some ⟨g3, 0, none⟩) (B.L.length + 1) cap3) vF ⟨B.st, B.rest, B.cls, (B.L ++ [x]).set B.L.length (x.withWant (kcopied x.want wti)), B.F, B.now⟩) := by
      have hfin := HK3.out.wants (w' := w4) B.L.length (by show B.L.length < (B.L ++ [x]).length; rw [hll]; omega) (kcopied x.want wti) (by show _ = ((B.L ++ [x]).getD B.L.length KBlk.no).want.length; rw [hlast]; exact kcopied_len _ _) (by show Blk _ ((B.L ++ [x]).getD B.L.length KBlk.no).wb _ _; rw [hlast]; exact HB4.out) (by show Kept _ _ (· = ((B.L ++ [x]).getD B.L.length KBlk.no).wb); rw [hlast]; exact HK4k.out)
      change KRep _ pb ph gc bb _ vc _ vF ⟨B.st, B.rest, B.cls, (B.L ++ [x]).set B.L.length (((B.L ++ [x]).getD B.L.length KBlk.no).withWant (kcopied x.want wti)), B.F, B.now⟩ at hfin
      rw [hlast] at hfin
      exact hfin
    have HB4b : Hid (Below w0.heap.size w0 w4) := HB3.out.trans (HK4k.out.to_below HB3.out.size (fun b hb => by rw [hb]; exact HWBF.out))
    have hl2 : ((B.L ++ [x]).set B.L.length (x.withWant (kcopied x.want wti))).length = B.L.length + 1 := by rw [List.length_set, hll]
    have HL2 := hide2 hl2
    have HHL := hide2 hll
    clear hb4 hk4 c4 r3 q3 c4' r3' q3' hsp hl2 hll
    go_wp2_with fail
    refine (kleft_any pb ph gc bb (reG G R pp size draw B.now) vc _ vF ⟨B.st, B.rest, B.cls, (B.L ++ [x]).set B.L.length (x.withWant (kcopied x.want wti)), B.F, B.now⟩ i w4 HR4.out (by show i < ((B.L ++ [x]).set _ _).length; rw [HL2.out]; omega) (by show B.F.length ≤ _; omega)).mono ?_
    rintro e w5 ⟨vF', rfl, hK5, hk5, hn5⟩
    have HFIN : Hid (KInT T' w0 w5 pb (n + 1)) := by
      have hb5 : Below w0.heap.size w0 w5 := HB4b.out.trans (hk5.to_below HB4b.out.size (fun b hb => by
        rcases hb with hb | hb | hb
        · exact HFT.out b (.inl hb)
        · rcases HN3.out b hb with hb | hb
          · exact HFT.out b (.inr (.inr (.inr (.inl hb))))
          · have := HS2.out; omega
        · exact HFT.out b (.inr (.inr (.inr (.inr (.inl hb)))))))
      have hokf := HOKF.out
      have htf := HTF.out
      unfold kgrown at hokf htf
      rw [HWTE.out] at hokf htf
      have hs4 := HB4b.out.size
      have hs2 := HS2.out
      refine ⟨ph, gc, bb, _, _, vc, _, vF', _, hK5, hokf, htf, ?_, by show (B.F ++ [_]).length ≤ _; simp; omega, n0, by show B.now ≤ _; omega, hb5, fun b hb => ?_⟩
      · show (((B.L ++ [x]).set B.L.length (x.withWant (kcopied x.want wti))).set i _).length ≤ _
        rw [List.length_set, HL2.out]; omega
      · rcases hb with hb | hb | hb | hb | hb | ⟨t, ht, hb⟩
        · exact HFT.out b (.inl hb)
        · exact HFT.out b (.inr (.inl hb))
        · exact HFT.out b (.inr (.inr (.inl ((HGF.out b).1 hb))))
        · rcases HN3.out b hb with hb | hb
          · exact HFT.out b (.inr (.inr (.inr (.inl hb))))
          · omega
        · rcases hn5 b hb with hb | hb
          · exact HFT.out b (.inr (.inr (.inr (.inr (.inl hb)))))
          · omega
        · change t < (((B.L ++ [x]).set B.L.length (x.withWant (kcopied x.want wti))).set i _).length at ht
          rw [List.length_set, HL2.out] at ht
          change b = ((((B.L ++ [x]).set B.L.length (x.withWant (kcopied x.want wti))).set i ((((B.L ++ [x]).set B.L.length (x.withWant (kcopied x.want wti))).getD i KBlk.no).off B.now)).getD t KBlk.no).wb at hb
          have hwt : b = ((B.L ++ [x]).getD t KBlk.no).wb := by
            rw [hb, getD_setL _ _ _ _ (by rw [HL2.out]; omega)]
            by_cases et : t = i
            · rw [if_pos et, et]
              show (((B.L ++ [x]).set B.L.length (x.withWant (kcopied x.want wti))).getD i KBlk.no).wb = _
              rw [getD_setL _ _ _ _ (by rw [HHL.out]; omega), if_neg (by omega)]
            · rw [if_neg et, getD_setL _ _ _ _ (by rw [HHL.out]; omega)]
              by_cases el : t = B.L.length
              · rw [if_pos el, el, hlast]; rfl
              · rw [if_neg el]
          rw [getD_appL] at hwt
          by_cases el : t = B.L.length
          · rw [if_pos el] at hwt
            rw [hwt]; exact HWBF.out
          · rw [if_neg el] at hwt
            exact HFT.out b (.inr (.inr (.inr (.inr (.inr ⟨t, by omega, hwt⟩)))))
    clear hK5 hk5 hn5
    go_wp2
    go_ret2
    exact ⟨rfl, HFIN.out⟩
end Go.Proofs.Ytjikemhmnkckcaa
