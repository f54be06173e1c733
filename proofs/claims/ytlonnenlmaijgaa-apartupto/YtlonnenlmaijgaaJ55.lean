import Derived.Test.YtlonnenlmaijgaaJ53
import Derived.Test.YtlonnenlmaijgaaJ54
import Derived.WalkKit
import Derived.ProofKit
import Derived.OpenShut
import Derived.JoinedCond
import Derived.ChangeOld
import Derived.Below
import Derived.Deep.CondSized
/- Apart: every live block stands. -/
namespace Go.Proofs.Ytlonnenlmaijgaa
open Go.RowKit

set_option maxRecDepth 100000 in
set_option maxHeartbeats 3200000 in
theorem apart_any (st rest : Int) (a : Option Addr) (cap : Nat) (cls : List (Int × Int)) (ta : Option Addr) (tlen tcap : Nat) (u : Nat → Nat → Int) (w : World) (h : CRow w a cap cls) (b0 : -9223372036854775808 ≤ st) (b1 : st ≤ 9223372036854775807) (b2 : -9223372036854775808 ≤ rest) (b3 : rest ≤ 9223372036854775807) (hs : TRow w ta tlen tcap u) (hl : tlen ≤ 1048576) :
    Calls Try.prog 9 #[.agg #[.int .i64 st, .int .i64 rest, .slice a cls.length cap], .slice ta tlen tcap] w fun e w' => e = .returned (.bool true) ∧ Below w.heap.size w w' := by
  have HC := hide2 h
  have HS := hide2 hs
  have HBB := hide2 (And.intro (And.intro b0 b1) (And.intro b2 b3))
  clear h hs b0 b1 b2 b3
  go_enter Try.func9, Try.ntmps9
  go_wp2_with fail
  obtain ⟨wa, hwa⟩ : ∃ wa, wa = w.alloc (.cells #[.int .i64 st, .int .i64 rest, .slice a cls.length cap] 24) := ⟨_, rfl⟩
  rw [← hwa]
  have HBA : Hid (Below w.heap.size w wa) := by show Below _ _ _; rw [hwa]; exact (Below.refl _ _).alloc (Nat.le_refl _) _
  clear hwa
  refine (kopen_any st rest a cap cls wa (HC.out.below HBA.out) HBB.out.1.1 HBB.out.1.2 HBB.out.2.1 HBB.out.2.2).mono ?_
  rintro e w1 ⟨pb, rfl, hn⟩
  have HN := hide2 hn
  clear hn
  go_wp2_with fail
  refine (kplays_any wa pb ta tlen tcap u false w1 HN.out (HS.out.below HBA.out) hl).mono ?_
  rintro e w2 ⟨rfl, hi⟩
  have HBL : Hid (Below w.heap.size w w2) := HBA.out.trans (hi.bel.mono HBA.out.size)
  obtain ⟨ph, gc, bb, G, R, vc, vL, vF, B, hK, hok, hL, -, -, -, -, -⟩ := hi
  have HK := hide2 hK
  have HOK := hide2 hok
  have hpb := hK.blk.lt
  have hlen : B.L.length ≤ 1048577 := by omega
  clear HN hK hok hL
  obtain ⟨al, capL, rfl, hcapL, hmaxL, hrow⟩ := row_open HK.out.L
  unfold maxLen at hmaxL
  have HROW := hide2 hrow
  clear hrow
  go_wp2_with fail
  go_loopw [7] (fun i wr => ∃ n : Nat, n ≤ B.L.length ∧ i = .int .i64 (n : Int) ∧ Below w2.heap.size w2 wr) (fun i _ => ((B.L.length : Int) - intOf i).toNat)
  case atStart => exact ⟨0, by omega, rfl, Below.refl _ _⟩
  case round =>
    obtain ⟨n, hn, rfl, hb⟩ := hrel
    have HB := hide2 hb
    have HK1 := hide2 (HK.out.below hb)
    have c4 := HK1.out.blk.cell (j := 4) rfl
    have hp1 : pb < wr.heap.size := HK1.out.blk.lt
    clear hb
    by_cases hlt : n < B.L.length
    · have hl2 : (n : Int) < (B.L.length : Int) := by omega
      have h0 : (0 : Int) ≤ (n : Int) := by omega
      obtain ⟨g, rfl, hgl, hcell, hfrz⟩ := HROW.out (by omega)
      obtain ⟨d0, d1, d2, d3, d4, d5, d6⟩ := kblk_cells hcell n hlt
      have d4' := (HB.out.cell (p := ⟨g, n * 7 + 4, none⟩) hgl).trans d4
      clear d0 d1 d2 d3 d4 d5 d6 hcell hfrz
      cases hlv : (B.L.getD n KBlk.no).live with
      | false =>
        rw [hlv] at d4'
        have HLV := hide2 hlv
        clear hlv
        go_wp2
        go_roundw
        case rel => exact ⟨n + 1, by omega, by go_num, HB.out⟩
        case measure => simp [intOf]; omega
      | true =>
        rw [hlv] at d4'
        have HST : Hid (Stands R (B.L.getD n KBlk.no) ∧ (B.L.getD n KBlk.no).want.length ≤ 128 ∧ 0 ≤ (B.L.getD n KBlk.no).p ∧ (B.L.getD n KBlk.no).p ≤ 2000000000000000000) := by
          obtain ⟨k, s, hkl⟩ := HOK.out.live n hlt hlv
          have hb := hkl.bd HOK.out.simb
          have hp := hkl.p
          exact ⟨hkl.stands HOK.out.simb, hb.2.2.2.2.1, by omega, by omega⟩
        clear hlv
        go_wp2_with fail
        refine (kstands_any pb ph gc bb G R vc _ vF B n wr HK1.out HOK.out.simb hlt HST.out.1 HST.out.2.1 HST.out.2.2.1 HST.out.2.2.2).mono ?_
        rintro e w3 ⟨rfl, hb3⟩
        have HB3 : Hid (Below w2.heap.size w2 w3) := HB.out.trans (hb3.mono HB.out.size)
        clear hb3 c4 d4'
        go_wp2
        go_roundw
        case rel => exact ⟨n + 1, by omega, by go_num, HB3.out⟩
        case measure => simp [intOf]; omega
    · obtain rfl : n = B.L.length := by omega
      go_wp2
      go_ret
      exact ⟨rfl, HBL.out.trans (HB.out.mono HBL.out.size)⟩
end Go.Proofs.Ytlonnenlmaijgaa
namespace Go.Proofs.Ytlonnenlmaijgaa.apart
open Go.ChangeShapes Go.WideShapes Go.ChangeAt Go.RowKit

theorem own : ownKnob Try.prog.godebug = none := by kernel_rfl
theorem laidOut : laidOutB Try.prog = true := by kernel_rfl

set_option maxRecDepth 100000 in
theorem lifted (os : Os) (started : os.Started) (H : Type) (enc : TypeId × Value → H) (F : Stop.Interp) :
    ReturnsInHanded {} Try.checked os 9 .any ((Rows.OpenSpec.upto Rows.apartSpec).pre6 enc Try.prog Try.f9 Rows.apartUptoRow.domain false) (((Rows.OpenSpec.upto Rows.apartSpec).at F).post enc Try.prog Try.f9 false true false false) := by
  refine returnsInHanded_of_cond_sized (C := Try.checked) (s := Rows.OpenSpec.upto Rows.apartSpec) (k := Rows.uptoSmall) rfl own started (by kernel_rfl) Try.func9
    (OpenSpec.witness (enc := enc) (C := Try.checked) (s := Rows.OpenSpec.upto Rows.apartSpec) (k := Rows.uptoSmall) rfl false ⟨#[], #[.agg #[.int .i64 0, .int .i64 0, .slice none 0 0], .slice none 0 0], []⟩ 8 (by kernel_rfl) (by kernel_rfl) (by kernel_rfl)
      (x := ([.agg [.lit (.int .i64 0), .lit (.int .i64 0), .nil], .nil], [], [])) (by kernel_rfl) rfl (by kernel_rfl)) ?_
  intro W base args ds gs before hval0 hW hcnd hk hsz0 _
  have hval : ∀ (j : Nat) t v, Try.f9.params[j]? = some t → args[j]? = some v → Value.okWide Try.prog W .any base t v := hval0
  have hsz : (DataW.weightsEach Try.prog (Try.f9.params.toList ++ Rows.apartSpec.plain.varTypes Try.prog) (ds ++ gs)).all (· ≤ reachBytes) = true := hsz0
  have hbk : Rows.uptoBulkAll (ds ++ gs) ≤ 1048576 := of_decide_eq_true hk
  have hW' := hW
  obtain ⟨p, q, hA0, hV, rfl, hfz, hnd⟩ := hW
  have hA : DataW.TrodAll enc Try.prog W 0 (fun _ => true) true Try.f9.params.toList args.toList ds p := hA0
  rw [Try.params9] at hA hval hsz
  obtain ⟨v0, vs0, d0, ds0, p0, q0, hargs, rfl, rfl, h0, r0⟩ := trodAll_cons hA
  obtain ⟨v1, vs1, d1, ds1, p1, q1, rfl, rfl, rfl, h1, r1⟩ := trodAll_cons r0
  obtain ⟨rfl, rfl, rfl⟩ := trodAll_nil r1
  obtain rfl : args = #[v0, v1] := by cases args; simp_all
  obtain ⟨rfl, rfl⟩ := trodVars_none hV
  have k0 := h0
  have k1 := h1
  have lt0 : ∀ x ∈ p0, x.block < W.heap.size := by obtain ⟨m, hm⟩ := k0; exact DataW.trod_lt m _ _ _ hm
  have lt1 : ∀ x ∈ p1, x.block < W.heap.size := by obtain ⟨m, hm⟩ := k1; exact DataW.trod_lt m _ _ _ hm
  obtain ⟨st, rest, a, cap, cls, rfl, hcr, _⟩ := open_conf (hval 0 24 v0 rfl rfl) h0
  obtain ⟨sa, slen, scap, u, rfl, hsr, _⟩ := open_steps (hval 1 43 v1 rfl rfl) h1
  have hb1 := bulk_slice Try.underlying43 k1
  simp only [List.cons_append, List.nil_append, Rows.uptoBulkAll] at hbk
  clear hA0 hval0
  have hbd := conf_bd (hval 0 24 _ rfl rfl) k0
  refine (apart_any st rest a cap cls sa slen scap u W hcr hbd.1.1 hbd.1.2 hbd.2.1 hbd.2.2 hsr (by omega)).mono fun e W' ⟨he, bel⟩ => ?_
  subst he
  exact ⟨_, rfl, _, _, _, [], _, [], hW', trodAll_mk1 (shut_bool Try.underlying4 _), (trodAll_cons_mk (Below.trod laidOut (by kernel_rfl) (of_decide_eq_true (by kernel_rfl)) k0 bel lt0) (trodAll_cons_mk (Below.trod laidOut (by kernel_rfl) (of_decide_eq_true (by kernel_rfl)) k1 bel lt1) trodAll_mk0)), rfl, bel.frame _, fun h => by cases h⟩

theorem over : Rows.ApartUptoSaid :=
  OpenClaim.holds_of_cond 9 Try.f9 rfl rfl rfl rfl rfl rfl rfl ⟨rfl, rfl, rfl, rfl, rfl⟩ rfl rfl rfl rfl rfl (by kernel_rfl) Try.func9 (by kernel_rfl)
    (of_decide_eq_true (by kernel_rfl)) (by unfold Func.isWrapper; first | (rw [if_pos (by decide +kernel)]; kernel_rfl) | (rw [if_neg (by decide +kernel)]; exact ⟨rfl, rfl⟩))
    (fun os started H enc _ F => lifted os started H enc F)
end Go.Proofs.Ytlonnenlmaijgaa.apart

namespace Go.Proofs.Ytlonnenlmaijgaa
theorem apart_holds : Rows.ApartUptoSaid := apart.over
#print axioms apart_holds
end Go.Proofs.Ytlonnenlmaijgaa
