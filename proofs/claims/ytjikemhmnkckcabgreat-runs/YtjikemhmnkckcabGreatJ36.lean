import Derived.Test.YtjikemhmnkckcabGreatJ35
import Derived.Deep.Cut
/- The document's Read. -/
namespace Go.Proofs.YtjikemhmnkckcabGreat
open Go.RowKit

/-- What Read answers. -/
def oSt (d : ByteArray) : Int := if imgB d = true then byteAt d 2 else 0
def oRest (d : ByteArray) : Int := if imgB d = true then byteAt d 3 else 0
def oCls (d : ByteArray) : List (Int × Int) := if imgB d = true then pCls d else []
def oData (d : ByteArray) : ByteArray := if imgB d = true then pData d else ⟨#[]⟩
def oCode (d : ByteArray) : List Ins := if imgB d = true then pCode d else []
def oErr (d : ByteArray) : Int := if imgB d = true then 0 else 10
theorem o_yes {d : ByteArray} (h : imgB d = true) : oSt d = byteAt d 2 ∧ oRest d = byteAt d 3 ∧ oCls d = pCls d ∧ oData d = pData d ∧ oCode d = pCode d ∧ oErr d = 0 := by simp [oSt, oRest, oCls, oData, oCode, oErr, h]
theorem o_no {d : ByteArray} (h : imgB d = false) : oSt d = 0 ∧ oRest d = 0 ∧ oCls d = [] ∧ oData d = ⟨#[]⟩ ∧ oCode d = [] ∧ oErr d = 10 := by simp [oSt, oRest, oCls, oData, oCode, oErr, h]
def zProg : List Value := [.int .i64 0, .int .i64 0, .slice none 0 0, .string ⟨#[]⟩, .slice none 0 0]
theorem pCls_take (d : ByteArray) (m : Nat) (h : m < pN d) : (pCls d).take (m + 1) = (pCls d).take m ++ [(byteAt d (5 + 2 * m), byteAt d (6 + 2 * m))] := by
  rw [List.take_add_one]
  simp [pCls, h]
theorem pCode_take (d : ByteArray) (m : Nat) (h : m < pL d) : (pCode d).take (m + 1) = (pCode d).take m ++ [pIns d m] := by
  rw [List.take_add_one]
  simp [pCode, h]

theorem str_ne {a b : ByteArray} (h : a ≠ b) : (a.toList == b.toList) = false := by
  rw [beq_eq_false_iff_ne, ByteArray.toList_eq, ByteArray.toList_eq]
  exact fun e => h (bext e)
theorem crow_nil (w : World) : CRow w none 0 [] := ⟨Nat.le_refl _, by simp [maxLen], fun h => absurd h (by simp)⟩
theorem irow_nil (w : World) : IRow w none 0 [] := ⟨Nat.le_refl _, by simp [maxLen], fun h => absurd h (by simp)⟩
theorem crow_of {w : World} {a : Option Addr} {cap : Nat} {cls : List (Int × Int)} (h : w.ownsRow 0 84 2 (.slice a cls.length cap) cls.length (cls.flatMap clsCells)) : CRow w a cap cls := by
  obtain ⟨a', cap', e, hc⟩ := CRow.of_row h
  injection e with e1 e2 e3
  subst e1 e3
  exact hc
theorem irow_of {w : World} {a : Option Addr} {cap : Nat} {code : List Ins} (h : w.ownsRow 0 60 4 (.slice a code.length cap) code.length (code.flatMap insCells)) : IRow w a cap code := by
  obtain ⟨a', cap', e, hc⟩ := IRow.of_row h
  injection e with e1 e2 e3
  subst e1 e3
  exact hc
theorem row_set5 {w : World} {q : Nat} {e : TypeId} {m : Nat} {v : Value} {n : Nat} {xs : List Value} (h : w.ownsRow 0 e m v n xs) (hq : ∀ g, v.ownBlock = some g → g ≠ q) (v0 v1 v2 v3 v4 : Value) :
    (((((w.setCell ⟨q, 0, none⟩ v0).setCell ⟨q, 1, none⟩ v1).setCell ⟨q, 2, none⟩ v2).setCell ⟨q, 3, none⟩ v3).setCell ⟨q, 4, none⟩ v4).ownsRow 0 e m v n xs := by
  refine row_kept h (fun g hg => ?_)
  have hn := hq g hg
  rw [Below.heap_setCell _ _ _ g hn, Below.heap_setCell _ _ _ g hn, Below.heap_setCell _ _ _ g hn, Below.heap_setCell _ _ _ g hn, Below.heap_setCell _ _ _ g hn]
theorem below_set5 {w w1 : World} (h : Below w.heap.size w w1) (v0 v1 v2 v3 v4 : Value) : Below w.heap.size w (((((w1.setCell ⟨w.heap.size, 0, none⟩ v0).setCell ⟨w.heap.size, 1, none⟩ v1).setCell ⟨w.heap.size, 2, none⟩ v2).setCell ⟨w.heap.size, 3, none⟩ v3).setCell ⟨w.heap.size, 4, none⟩ v4) :=
  ((((h.setCell (Nat.le_refl _) _).setCell (Nat.le_refl _) _).setCell (Nat.le_refl _) _).setCell (Nat.le_refl _) _).setCell (Nat.le_refl _) _

set_option maxRecDepth 100000 in
set_option maxHeartbeats 3200000 in
theorem rread_any (d : ByteArray) (w : World) (hd : (d.size : Int) ≤ 9223372036854775807) : Calls Tryz.prog 17 #[.string d] w fun e w' =>
    ∃ a cap ia icap, e = .returned (.tuple #[.agg #[.int .i64 (oSt d), .int .i64 (oRest d), .slice a (oCls d).length cap, .string (oData d), .slice ia (oCode d).length icap], .int .i64 (oErr d)]) ∧
      Rows2 w' w.heap.size (.slice a (oCls d).length cap) (.slice ia (oCode d).length icap) (oCls d) (oCode d) ∧ Below w.heap.size w w' := by
  obtain ⟨i0, hi0, hz0, hz1, hz2⟩ := info_parts info_cls
  obtain ⟨j0, hj0, hy0, hy1, hy2⟩ := info_parts info_ins
  have b2 := byteAt_bd d 2
  have b3 := byteAt_bd d 3
  have HN := hide2 (pN_cast d)
  have HM := hide2 (pM_cast d)
  have HL := hide2 (pL_cast d)
  have nle := pN_le d
  have mle := pM_le d
  have lle := pL_le d
  go_enter Tryz.func17, Tryz.ntmps17
  go_upto_region 2 with (fail)
  obtain ⟨wa, hwa⟩ : ∃ wa, wa = (w.alloc (.cells zProg.toArray 39)).alloc (.cells zProg.toArray 39) := ⟨_, rfl⟩
  have HZ : Hid (Blk wa w.heap.size 39 zProg) := by
    show Blk _ _ _ _; rw [hwa]; exact (Below.heap_alloc _ _ _ (by simp)).trans (heap_alloc_new w _)
  have HB : Hid (PBox (w.heap.size + 1) wa wa (w.heap.size + 1) 0 0 ⟨#[]⟩ (.slice none 0 0) (.slice none 0 0) [] []) := by
    refine ⟨Below.refl _ _, ?_, ⟨rfl, .inl ⟨rfl, rfl⟩⟩, ⟨rfl, .inl ⟨rfl, rfl⟩⟩, Nat.le_refl _, fun g hg => by simp [Value.ownBlock] at hg, fun g hg => by simp [Value.ownBlock] at hg, fun g hg => by simp [Value.ownBlock] at hg⟩
    rw [hwa, show w.heap.size + 1 = (w.alloc (.cells zProg.toArray 39)).heap.size by simp]
    exact heap_alloc_new _ _
  have HBA : Hid (Below w.heap.size w wa) := by show Below _ _ _; rw [hwa]; exact ((Below.refl _ _).alloc (Nat.le_refl _) _).alloc (by simp) _
  unfold zProg at hwa
  rw [← hwa]
  clear hwa
  have c0 := HB.out.blk.cell (j := 0) rfl
  have c1 := HB.out.blk.cell (j := 1) rfl
  have f0 := HB.out.blk.frozen 0
  have f1 := HB.out.blk.frozen 1
  go_upto_region 5 with (go_at_call 30; refine (at_any d _ _ (by omega)).mono ?_; rintro e1 w1 ⟨rfl, rfl⟩)
  obtain ⟨wb, hwb⟩ : ∃ wb, wb = (wa.setCell ⟨w.heap.size + 1, 0, none⟩ (.int .i64 (byteAt d 2))).setCell ⟨w.heap.size + 1, 1, none⟩ (.int .i64 (byteAt d 3)) := ⟨_, rfl⟩
  rw [← hwb, ← HN.out]
  have HBB : Hid (PBox (w.heap.size + 1) wa wb (w.heap.size + 1) (byteAt d 2) (byteAt d 3) ⟨#[]⟩ (.slice none 0 0) (.slice none 0 0) [] []) :=
    (HB.out.num (.int .i64 (byteAt d 2)) rfl (byteAt d 2) 0 ⟨#[]⟩ rfl).num (.int .i64 (byteAt d 3)) hwb (byteAt d 2) (byteAt d 3) ⟨#[]⟩ rfl
  clear hwb c0 c1 f0 f1 HB
  generalize hst : byteAt d 2 = st at *
  generalize hrest : byteAt d 3 = rest at *
  have HST := hide2 hst
  have HRE := hide2 hrest
  clear hst hrest
  go_wp2
  go_loopw [6] (fun i wr => ∃ (m : Nat) (vc : Value), m ≤ pN d ∧ i = .int .i64 (m : Int) ∧ Hid (PBox (w.heap.size + 1) wa wr (w.heap.size + 1) st rest ⟨#[]⟩ vc (.slice none 0 0) ((pCls d).take m) [])) (fun i _ => pN d - (intOf i).toNat)
  case atStart => exact ⟨0, _, by omega, rfl, HBB⟩
  case round =>
    obtain ⟨m, vc, hm, rfl, HR⟩ := hrel
    clear HBB
    by_cases hlt : m < pN d
    · have hmI : (m : Int) < (pN d : Int) := by omega
      have q2 := HR.out.blk.cell (j := 2) rfl
      have qf := HR.out.blk.frozen 2
      have hql := HR.out.blk.lt
      have hlen : ((pCls d).take m).length = m := by rw [List.length_take, pCls_len]; omega
      have HNX := hide2 (pCls_take d m hlt)
      have u1 : ((5 : Int) + 2 * (m : Int)).toNat = 5 + 2 * m := by omega
      have u2 : ((6 : Int) + 2 * (m : Int)).toNat = 6 + 2 * m := by omega
      go_upto_region 10 with (go_at_call 30; refine (at_any d _ _ (by omega)).mono ?_; rintro e1 w1 ⟨rfl, rfl⟩)
      generalize byteAt d (5 + 2 * m) = gx at *
      generalize byteAt d (6 + 2 * m) = gy at *
      generalize (pCls d).take m = cs at *
      have HX : Hid (Below wr.heap.size wr (wr.alloc (.cells #[.int .i64 gx, .int .i64 gy] 84))) := (Below.refl _ _).alloc (Nat.le_refl _) _
      have HRW := hide2 (HR.out.under HX.out).crow
      have HFAR := hide2 HR.out.cfar
      have hcm : cs.length ≤ 255 := by omega
      have HLEN := hide2 hlen
      clear hlen
      go_wp2_with (at_builtin; go_loud (refine wpList_append_lies _ rfl _ _ _ rfl 0 84 i0 _ 2 16 Tryz.underlying34 hi0 hz0 hz1 hz2 rfl (by omega) vc cs.length (cs.flatMap clsCells) rfl HRW.out ⟨wr.heap.size, 0, none⟩ 1 1 [.int .i64 gx, .int .i64 gy] rfl rfl (World.news_of_block (cs := #[.int .i64 gx, .int .i64 gy]) (t := 84) (fr := (0, 0)) (heap_alloc_new wr _)) (by simp [Value.oneCell']) (by omega) (by simp [maxLen]; omega) (by omega) (by simp) (wr.heap.size + 1) (by simp) ?_; intro gg cap2 w2 hown hgrow hat hlt2; have q2' : w2.cell? ⟨w.heap.size + 1, 2, none⟩ = some vc := (by rw [hgrow.cell_far _ (by simp; omega) (fun e => by have := HFAR.out _ e.symm; simp at this), World.cell?_alloc_lt _ _ _ hql]; exact q2); have qf' : w2.frozen? ⟨w.heap.size + 1, 2, none⟩ = false := (by rw [hgrow.frozen_far _ (by simp; omega) (fun e => by have := HFAR.out _ e.symm; simp at this), World.frozen?_alloc_old _ _ _ (by show w.heap.size + 1 ≠ _; omega)]; exact qf)))
      have HN2 := hide2 (HR.out.addC (c := (gx, gy)) HX.out hown hgrow (by rcases hat with e | e; exact .inl e; right; omega))
      go_roundw
      case rel => exact ⟨m + 1, _, by omega, by go_num, by rw [HNX.out]; exact HN2⟩
      case measure => simp [intOf]; omega
    · obtain rfl : m = pN d := by omega
      rw [show (pCls d).take (pN d) = pCls d from List.take_of_length_le (by rw [pCls_len]; omega)] at HR
      have v1 : ((5 : Int) + 2 * (pN d : Int)).toNat = pD d := by unfold pD; omega
      have v2 : byteAt d (pD d) = (pM d : Int) := HM.out.symm
      go_upto_if 67 with (go_at_call 30; refine (at_any d _ _ (by omega)).mono ?_; rintro e1 w1 ⟨rfl, rfl⟩)
      have c3 := HR.out.blk.cell (j := 3) rfl
      have cf3 := HR.out.blk.frozen 3
      have hF : (pF d : Int) = 5 + 2 * (pN d : Int) + 1 + (pM d : Int) := by unfold pF pD; omega
      have w1 : ((5 : Int) + 2 * (pN d : Int) + 1).toNat = pD d + 1 := by unfold pD; omega
      have w2 : ((5 : Int) + 2 * (pN d : Int) + 1 + (pM d : Int)).toNat = pF d := by unfold pF pD; omega
      go_cut [3] from 61 (fun s3 w' => s3 = .int .i64 0 ∧ Hid (PBox (w.heap.size + 1) wa w' (w.heap.size + 1) st rest (pData d) vc (.slice none 0 0) (pCls d) []))
      case first =>
        by_cases hfit : pF d ≤ d.size
        · have hI : (5 : Int) + 2 * (pN d : Int) + 1 + (pM d : Int) ≤ (d.size : Int) := by omega
          have HPD : Hid (pData d = d.extract (pD d + 1) (pF d)) := by show _ = _; unfold pData; rw [if_pos hfit]
          go_wp2
          go_meet
          case rel => exact ⟨rfl, HR.out.num (j := 3) (.string (pData d)) (by rw [HPD.out]) st rest (pData d) rfl⟩
        · have hI : ¬ ((5 : Int) + 2 * (pN d : Int) + 1 + (pM d : Int) ≤ (d.size : Int)) := by omega
          have HPD : Hid (pData d = ⟨#[]⟩) := by show _ = _; unfold pData; rw [if_neg hfit]
          go_wp2
          go_meet
          case rel => exact ⟨rfl, by rw [HPD.out]; exact HR⟩
      case rest =>
        obtain ⟨rfl, HRD⟩ := hcut
        clear HR c3 cf3
        generalize wc = wd at *
        have v3 : byteAt d (pF d) = (pL d : Int) := HL.out.symm
        go_upto_region 17 with (go_at_call 30; refine (at_any d _ _ (by omega)).mono ?_; rintro e1 w1 ⟨rfl, rfl⟩)
        rw [← hF]
        have HF := hide2 hF
        clear hF
        go_wp2
        go_loopw [12] (fun i wr => ∃ (m : Nat) (vi : Value), m ≤ pL d ∧ i = .int .i64 (m : Int) ∧ Hid (PBox (w.heap.size + 1) wa wr (w.heap.size + 1) st rest (pData d) vc vi (pCls d) ((pCode d).take m))) (fun i _ => pL d - (intOf i).toNat)
        case atStart => exact ⟨0, _, by omega, rfl, HRD⟩
        case round =>
          obtain ⟨m, vi, hm, rfl, HR⟩ := hrel
          clear HRD
          by_cases hlt : m < pL d
          · have hmI : (m : Int) < (pL d : Int) := by omega
            have q4 := HR.out.blk.cell (j := 4) rfl
            have qf := HR.out.blk.frozen 4
            have hql := HR.out.blk.lt
            have hlen : ((pCode d).take m).length = m := by rw [List.length_take, pCode_len]; omega
            have HNX := hide2 (pCode_take d m hlt)
            have hF2 : pF d ≤ 1000 := by unfold pF pD; omega
            have u1 : ((pF d : Int) + 1 + 4 * (m : Int)).toNat = pF d + 1 + 4 * m := by omega
            have u2 : ((pF d : Int) + 1 + 4 * (m : Int) + 1).toNat = pF d + 1 + 4 * m + 1 := by omega
            have u3 : ((pF d : Int) + 1 + 4 * (m : Int) + 2).toNat = pF d + 1 + 4 * m + 2 := by omega
            have u4 : ((pF d : Int) + 1 + 4 * (m : Int) + 3).toNat = pF d + 1 + 4 * m + 3 := by omega
            go_upto_region 25 with (go_at_call 30; refine (at_any d _ _ (by omega)).mono ?_; rintro e1 w1 ⟨rfl, rfl⟩)
            have hpi : pIns d m = ⟨byteAt d (pF d + 1 + 4 * m), byteAt d (pF d + 1 + 4 * m + 1), byteAt d (pF d + 1 + 4 * m + 2), byteAt d (pF d + 1 + 4 * m + 3)⟩ := rfl
            have HPI := hide2 hpi
            clear hpi
            generalize byteAt d (pF d + 1 + 4 * m) = x0 at *
            generalize byteAt d (pF d + 1 + 4 * m + 1) = x1 at *
            generalize byteAt d (pF d + 1 + 4 * m + 2) = x2 at *
            generalize byteAt d (pF d + 1 + 4 * m + 3) = x3 at *
            generalize (pCode d).take m = cs at *
            have HX : Hid (Below wr.heap.size wr (wr.alloc (.cells #[.int .i64 x0, .int .i64 x1, .int .i64 x2, .int .i64 x3] 60))) := (Below.refl _ _).alloc (Nat.le_refl _) _
            have HRW := hide2 (HR.out.under HX.out).irow
            have HFAR := hide2 HR.out.ifar
            have hcm : cs.length ≤ 255 := by omega
            have HLEN := hide2 hlen
            clear hlen u1 u2 u3 u4
            go_wp2_with (at_builtin; go_loud (refine wpList_append_lies _ rfl _ _ _ rfl 0 60 j0 _ 4 32 Tryz.underlying37 hj0 hy0 hy1 hy2 rfl (by omega) vi cs.length (cs.flatMap insCells) rfl HRW.out ⟨wr.heap.size, 0, none⟩ 1 1 [.int .i64 x0, .int .i64 x1, .int .i64 x2, .int .i64 x3] rfl rfl (World.news_of_block (cs := #[.int .i64 x0, .int .i64 x1, .int .i64 x2, .int .i64 x3]) (t := 60) (fr := (0, 0)) (heap_alloc_new wr _)) (by simp [Value.oneCell']) (by omega) (by simp [maxLen]; omega) (by omega) (by simp) (wr.heap.size + 1) (by simp) ?_; intro gg cap2 w2 hown hgrow hat hlt2; have q4' : w2.cell? ⟨w.heap.size + 1, 4, none⟩ = some vi := (by rw [hgrow.cell_far _ (by simp; omega) (fun e => by have := HFAR.out _ e.symm; simp at this), World.cell?_alloc_lt _ _ _ hql]; exact q4); have qf' : w2.frozen? ⟨w.heap.size + 1, 4, none⟩ = false := (by rw [hgrow.frozen_far _ (by simp; omega) (fun e => by have := HFAR.out _ e.symm; simp at this), World.frozen?_alloc_old _ _ _ (by show w.heap.size + 1 ≠ _; omega)]; exact qf)))
            have HN2 := hide2 (HR.out.addI (c := ⟨x0, x1, x2, x3⟩) HX.out hown hgrow (by rcases hat with e | e; exact .inl e; right; omega))
            go_roundw
            case rel => exact ⟨m + 1, _, by omega, by go_num, by rw [HNX.out, HPI.out]; exact HN2⟩
            case measure => simp [intOf]; omega
          · obtain rfl : m = pL d := by omega
            rw [show (pCode d).take (pL d) = pCode d from List.take_of_length_le (by rw [pCode_len]; omega)] at HR
            obtain ⟨a, cap, rfl, hcr⟩ := CRow.of_row HR.out.crow
            obtain ⟨ia, icap, rfl, hir⟩ := IRow.of_row HR.out.irow
            have HCR := hide2 hcr
            have HIR := hide2 hir
            clear hcr hir
            have c0 := HR.out.blk.cell (j := 0) rfl
            have c1 := HR.out.blk.cell (j := 1) rfl
            have c2 := HR.out.blk.cell (j := 2) rfl
            have c3 := HR.out.blk.cell (j := 3) rfl
            have c4 := HR.out.blk.cell (j := 4) rfl
            go_wp2_with fail
            refine (rwrite_any st rest a cap (pCls d) (pData d) ia icap (pCode d) wr HCR.out HIR.out).mono ?_
            rintro e1 w1 ⟨rfl, hb1⟩
            have HR1 := hide2 (HR.out.under hb1)
            have HZ1 : Hid (Blk w1 w.heap.size 39 zProg) := (HZ.out.below (HR1.out.below) (by omega))
            clear hb1 c0 c1 c2 c3 c4 HCR HIR HR
            have c0 := HR1.out.blk.cell (j := 0) rfl
            have c1 := HR1.out.blk.cell (j := 1) rfl
            have c2 := HR1.out.blk.cell (j := 2) rfl
            have c3 := HR1.out.blk.cell (j := 3) rfl
            have c4 := HR1.out.blk.cell (j := 4) rfl
            have z0 := HZ1.out.cell (j := 0) rfl
            have z1 := HZ1.out.cell (j := 1) rfl
            have z2 := HZ1.out.cell (j := 2) rfl
            have z3 := HZ1.out.cell (j := 3) rfl
            have z4 := HZ1.out.cell (j := 4) rfl
            have zf0 := HZ1.out.frozen 0
            have zf1 := HZ1.out.frozen 1
            have zf2 := HZ1.out.frozen 2
            have zf3 := HZ1.out.frozen 3
            have zf4 := HZ1.out.frozen 4
            cases hB : imgB d with
            | true =>
              have hy := imgB_yes hB
              have HY := hide2 (o_yes hB)
              unfold pSound at hy
              rw [HST.out, HRE.out] at hy
              have hE : wErr st rest (pCls d) (pData d) (pCode d) = 0 := by unfold wErr; rw [if_pos hy.1]
              have hI : wImg st rest (pCls d) (pData d) (pCode d) = d := by unfold wImg; rw [if_pos hy.1]; exact hy.2
              rw [hE, hI]
              have HBL : Hid (Below w.heap.size w w1) := HBA.out.trans (HR1.out.below.mono (by omega))
              have HC1 := hide2 HR1.out.crow
              have HI1 := hide2 HR1.out.irow
              have hcf : ∀ g, (Value.slice a (pCls d).length cap).ownBlock = some g → g ≠ w.heap.size := fun g hg => by have := HR1.out.cfar g hg; omega
              have hif : ∀ g, (Value.slice ia (pCode d).length icap).ownBlock = some g → g ≠ w.heap.size := fun g hg => by have := HR1.out.ifar g hg; omega
              have HCF := hide2 hcf
              have HIF := hide2 hif
              clear hcf hif hy hE hI hB
              go_wp2
              refine bodyPost_ret (v := .tuple #[.agg #[.int .i64 st, .int .i64 rest, .slice a (pCls d).length cap, .string (pData d), .slice ia (pCode d).length icap], .int .i64 0]) (by simp [results, Tryz.results17, go_sem, z0, z1, z2, z3, z4]) rfl ?_
              obtain ⟨y0, y1, y2, y3, y4, y5⟩ := HY.out
              rw [y0, y1, y2, y3, y4, y5, HST.out, HRE.out]
              exact ⟨a, cap, ia, icap, rfl, ⟨row_set5 HC1.out HCF.out _ _ _ _ _, row_set5 HI1.out HIF.out _ _ _ _ _, fun g hg => by have := HR1.out.cfar g hg; omega, fun g hg => by have := HR1.out.ifar g hg; omega, HR1.out.apart⟩, below_set5 HBL.out _ _ _ _ _⟩
            | false =>
              have HBL : Hid (Below w.heap.size w w1) := HBA.out.trans (HR1.out.below.mono (by omega))
              have hx : wErr st rest (pCls d) (pData d) (pCode d) = 10 ∨ wErr st rest (pCls d) (pData d) (pCode d) = 0 ∧ wImg st rest (pCls d) (pData d) (pCode d) ≠ d := by
                unfold wErr wImg
                cases hs : soundB st rest (pCls d) (pData d).size (pCode d) with
                | false => simp
                | true =>
                  right
                  refine ⟨by simp, fun e => ?_⟩
                  simp only [if_true] at e
                  have := imgB_of (d := d) (by unfold pSound; rw [HST.out, HRE.out]; exact hs) (by rw [HST.out, HRE.out]; exact e)
                  rw [hB] at this
                  cases this
              have HY := hide2 (o_no hB)
              clear hB
              rcases hx with hE | ⟨hE, hI⟩
              · rw [hE]
                clear hE
                go_wp2
                refine bodyPost_ret (v := .tuple #[.agg zProg.toArray, .int .i64 10]) (by simp [results, Tryz.results17, go_sem, z0, z1, z2, z3, z4, zProg]) rfl ?_
                obtain ⟨y0, y1, y2, y3, y4, y5⟩ := HY.out
                rw [y0, y1, y2, y3, y4, y5]
                exact ⟨none, 0, none, 0, rfl, rows2_nil _ _, below_set5 HBL.out _ _ _ _ _⟩
              · rw [hE]
                clear hE
                generalize wImg st rest (pCls d) (pData d) (pCode d) = gi at *
                have hne := str_ne hI
                go_wp2
                refine bodyPost_ret (v := .tuple #[.agg zProg.toArray, .int .i64 10]) (by simp [results, Tryz.results17, go_sem, z0, z1, z2, z3, z4, zProg]) rfl ?_
                obtain ⟨y0, y1, y2, y3, y4, y5⟩ := HY.out
                rw [y0, y1, y2, y3, y4, y5]
                exact ⟨none, 0, none, 0, rfl, rows2_nil _ _, below_set5 HBL.out _ _ _ _ _⟩
end Go.Proofs.YtjikemhmnkckcabGreat
/- The law of Write. -/
namespace Go.Proofs.YtjikemhmnkckcabGreat
open Go.RowKit
attribute [local go_sem ↓] Go.wp_at_zero Go.wp_at_succ

theorem Blk.kept {w w' : World} {S : Nat → Prop} {b : Nat} {t : TypeId} {xs : List Value} (h : Blk w b t xs) (hk : Kept w w' S) (hs : ¬ S b) : Blk w' b t xs := (hk.block b h.lt hs).trans h

end Go.Proofs.YtjikemhmnkckcabGreat
