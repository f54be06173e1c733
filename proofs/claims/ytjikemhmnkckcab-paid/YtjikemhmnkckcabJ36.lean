import Derived.Test.YtjikemhmnkckcabJ35
import Derived.Deep.Cut
/- The document's Read. -/
namespace Go.Proofs.Ytjikemhmnkckcab
open Go.RowKit

/-- What Read answers. -/
def oSt (d : ByteArray) : Int := if imgB d = true then byteAt d 2 else 0
def oRest (d : ByteArray) : Int := if imgB d = true then byteAt d 3 else 0
def oCls (d : ByteArray) : List (Int × Int) := if imgB d = true then pCls d else []
def oData (d : ByteArray) : ByteArray := if imgB d = true then pData d else ⟨#[]⟩
def oCode (d : ByteArray) : List Ins := if imgB d = true then pCode d else []
def oErr (d : ByteArray) : Int := if imgB d = true then 0 else 10
theorem o_yes {d : ByteArray} (h : imgB d = true) : oSt d = byteAt d 2 ∧ oRest d = byteAt d 3 ∧ oCls d = pCls d ∧ oData d = pData d ∧ oCode d = pCode d ∧ oErr d = 0 := by simp [oSt, oRest, oCls, oData, oCode, oErr, h]
theorem o_no {d : ByteArray} (h : imgB d = false) : oSt d = 0 ∧ oRest d = 0 ∧ oCls d = [] ∧ oData d = ⟨#[]⟩ ∧ oCode d = [] ∧ oErr d = 10 := by simp [oSt, oRest, oCls, oData, oCode, oErr, h]
def zProg : List Value := [.int .i64 0, .int .i64 0, .slice none 0 0, .string ⟨#[]⟩, .slice none 0 0]
theorem pCls_take (d : ByteArray) (m : Nat) (h : m < pN d) : (pCls d).take (m + 1) = (pCls d).take m ++ [(byteAt d (5 + 2 * m), byteAt d (6 + 2 * m))] := by
  rw [List.take_add_one]
  simp [pCls, h]
theorem pCode_take (d : ByteArray) (m : Nat) (h : m < pL d) : (pCode d).take (m + 1) = (pCode d).take m ++ [pIns d m] := by
  rw [List.take_add_one]
  simp [pCode, h]

theorem str_ne {a b : ByteArray} (h : a ≠ b) : (a.toList == b.toList) = false := by
  rw [beq_eq_false_iff_ne, ByteArray.toList_eq, ByteArray.toList_eq]
  exact fun e => h (bext e)
theorem crow_nil (w : World) : CRow w none 0 [] := ⟨Nat.le_refl _, by simp [maxLen], fun h => absurd h (by simp)⟩
theorem irow_nil (w : World) : IRow w none 0 [] := ⟨Nat.le_refl _, by simp [maxLen], fun h => absurd h (by simp)⟩
theorem crow_of {w : World} {a : Option Addr} {cap : Nat} {cls : List (Int × Int)} (h : w.ownsRow 0 37 2 (.slice a cls.length cap) cls.length (cls.flatMap clsCells)) : CRow w a cap cls := by
  obtain ⟨a', cap', e, hc⟩ := CRow.of_row h
  injection e with e1 e2 e3
  subst e1 e3
  exact hc
theorem irow_of {w : World} {a : Option Addr} {cap : Nat} {code : List Ins} (h : w.ownsRow 0 35 4 (.slice a code.length cap) code.length (code.flatMap insCells)) : IRow w a cap code := by
  obtain ⟨a', cap', e, hc⟩ := IRow.of_row h
  injection e with e1 e2 e3
  subst e1 e3
  exact hc
theorem row_set5 {w : World} {q : Nat} {e : TypeId} {m : Nat} {v : Value} {n : Nat} {xs : List Value} (h : w.ownsRow 0 e m v n xs) (hq : ∀ g, v.ownBlock = some g → g ≠ q) (v0 v1 v2 v3 v4 : Value) :
    (((((w.setCell ⟨q, 0, none⟩ v0).setCell ⟨q, 1, none⟩ v1).setCell ⟨q, 2, none⟩ v2).setCell ⟨q, 3, none⟩ v3).setCell ⟨q, 4, none⟩ v4).ownsRow 0 e m v n xs := by
  refine row_kept h (fun g hg => ?_)
  have hn := hq g hg
  rw [Below.heap_setCell _ _ _ g hn, Below.heap_setCell _ _ _ g hn, Below.heap_setCell _ _ _ g hn, Below.heap_setCell _ _ _ g hn, Below.heap_setCell _ _ _ g hn]
theorem below_set5 {w w1 : World} (h : Below w.heap.size w w1) (v0 v1 v2 v3 v4 : Value) : Below w.heap.size w (((((w1.setCell ⟨w.heap.size, 0, none⟩ v0).setCell ⟨w.heap.size, 1, none⟩ v1).setCell ⟨w.heap.size, 2, none⟩ v2).setCell ⟨w.heap.size, 3, none⟩ v3).setCell ⟨w.heap.size, 4, none⟩ v4) :=
  ((((h.setCell (Nat.le_refl _) _).setCell (Nat.le_refl _) _).setCell (Nat.le_refl _) _).setCell (Nat.le_refl _) _).setCell (Nat.le_refl _) _

set_option maxRecDepth 100000 in
set_option maxHeartbeats 3200000 in
theorem rread_any (d : ByteArray) (w : World) (hd : (d.size : Int) ≤ 9223372036854775807) : Calls Try.prog 8 #[.string d] w fun e w' =>
    ∃ a cap ia icap, e = .returned (.tuple #[.agg #[.int .i64 (oSt d), .int .i64 (oRest d), .slice a (oCls d).length cap, .string (oData d), .slice ia (oCode d).length icap], .int .i64 (oErr d)]) ∧
      Rows2 w' w.heap.size (.slice a (oCls d).length cap) (.slice ia (oCode d).length icap) (oCls d) (oCode d) ∧ Below w.heap.size w w' := by
  obtain ⟨i0, hi0, hz0, hz1, hz2⟩ := info_parts info_cls
  obtain ⟨j0, hj0, hy0, hy1, hy2⟩ := info_parts info_ins
  have b2 := byteAt_bd d 2
  have b3 := byteAt_bd d 3
  have HN := hide2 (pN_cast d)
  have HM := hide2 (pM_cast d)
  have HL := hide2 (pL_cast d)
  have nle := pN_le d
  have mle := pM_le d
  have lle := pL_le d
  go_enter Try.func8, Try.ntmps8
  go_upto_region 2 with (fail)
  obtain ⟨wa, hwa⟩ : ∃ wa, wa = (w.alloc (.cells zProg.toArray 27)).alloc (.cells zProg.toArray 27) := ⟨_, rfl⟩
  have HZ : Hid (Blk wa w.heap.size 27 zProg) := by
    show Blk _ _ _ _; rw [hwa]; exact (Below.heap_alloc _ _ _ (by simp)).trans (heap_alloc_new w _)
  have HB : Hid (PBox (w.heap.size + 1) wa wa (w.heap.size + 1) 0 0 ⟨#[]⟩ (.slice none 0 0) (.slice none 0 0) [] []) := by
    refine ⟨Below.refl _ _, ?_, ⟨rfl, .inl ⟨rfl, rfl⟩⟩, ⟨rfl, .inl ⟨rfl, rfl⟩⟩, Nat.le_refl _, fun g hg => by simp [Value.ownBlock] at hg, fun g hg => by simp [Value.ownBlock] at hg, fun g hg => by simp [Value.ownBlock] at hg⟩
    rw [hwa, show w.heap.size + 1 = (w.alloc (.cells zProg.toArray 27)).heap.size by simp]
    exact heap_alloc_new _ _
  have HBA : Hid (Below w.heap.size w wa) := by show Below _ _ _; rw [hwa]; exact ((Below.refl _ _).alloc (Nat.le_refl _) _).alloc (by simp) _
  unfold zProg at hwa
  rw [← hwa]
  clear hwa
  have c0 := HB.out.blk.cell (j := 0) rfl
  have c1 := HB.out.blk.cell (j := 1) rfl
  have f0 := HB.out.blk.frozen 0
  have f1 := HB.out.blk.frozen 1
  go_upto_region 5 with (go_at_call 26; refine (at_any d _ _ (by omega)).mono ?_; rintro e1 w1 ⟨rfl, rfl⟩)
  obtain ⟨wb, hwb⟩ : ∃ wb, wb = (wa.setCell ⟨w.heap.size + 1, 0, none⟩ (.int .i64 (byteAt d 2))).setCell ⟨w.heap.size + 1, 1, none⟩ (.int .i64 (byteAt d 3)) := ⟨_, rfl⟩
  rw [← hwb, ← HN.out]
  have HBB : Hid (PBox (w.heap.size + 1) wa wb (w.heap.size + 1) (byteAt d 2) (byteAt d 3) ⟨#[]⟩ (.slice none 0 0) (.slice none 0 0) [] []) :=
    (HB.out.num (.int .i64 (byteAt d 2)) rfl (byteAt d 2) 0 ⟨#[]⟩ rfl).num (.int .i64 (byteAt d 3)) hwb (byteAt d 2) (byteAt d 3) ⟨#[]⟩ rfl
  clear hwb c0 c1 f0 f1 HB
  generalize hst : byteAt d 2 = st at *
  generalize hrest : byteAt d 3 = rest at *
  have HST := hide2 hst
  have HRE := hide2 hrest
  clear hst hrest
  go_wp2
  go_loopw [6] (fun i wr => ∃ (m : Nat) (vc : Value), m ≤ pN d ∧ i = .int .i64 (m : Int) ∧ Hid (PBox (w.heap.size + 1) wa wr (w.heap.size + 1) st rest ⟨#[]⟩ vc (.slice none 0 0) ((pCls d).take m) [])) (fun i _ => pN d - (intOf i).toNat)
  case atStart => exact ⟨0, _, by omega, rfl, HBB⟩
  case round =>
    obtain ⟨m, vc, hm, rfl, HR⟩ := hrel
    clear HBB
    by_cases hlt : m < pN d
    · have hmI : (m : Int) < (pN d : Int) := by omega
      have q2 := HR.out.blk.cell (j := 2) rfl
      have qf := HR.out.blk.frozen 2
      have hql := HR.out.blk.lt
      have hlen : ((pCls d).take m).length = m := by rw [List.length_take, pCls_len]; omega
      have HNX := hide2 (pCls_take d m hlt)
      have u1 : ((5 : Int) + 2 * (m : Int)).toNat = 5 + 2 * m := by omega
      have u2 : ((6 : Int) + 2 * (m : Int)).toNat = 6 + 2 * m := by omega
      go_upto_region 10 with (go_at_call 26; refine (at_any d _ _ (by omega)).mono ?_; rintro e1 w1 ⟨rfl, rfl⟩)
      generalize byteAt d (5 + 2 * m) = gx at *
      generalize byteAt d (6 + 2 * m) = gy at *
      generalize (pCls d).take m = cs at *
      have HX : Hid (Below wr.heap.size wr (wr.alloc (.cells #[.int .i64 gx, .int .i64 gy] 37))) := (Below.refl _ _).alloc (Nat.le_refl _) _
      have HRW := hide2 (HR.out.under HX.out).crow
      have HFAR := hide2 HR.out.cfar
      have hcm : cs.length ≤ 255 := by omega
      have HLEN := hide2 hlen
      clear hlen
      go_wp2_with (at_builtin; go_loud (refine wpList_append_lies _ rfl _ _ _ rfl 0 37 i0 _ 2 16 Try.underlying22 hi0 hz0 hz1 hz2 rfl (by omega) vc cs.length (cs.flatMap clsCells) rfl HRW.out ⟨wr.heap.size, 0, none⟩ 1 1 [.int .i64 gx, .int .i64 gy] rfl rfl (World.news_of_block (cs := #[.int .i64 gx, .int .i64 gy]) (t := 37) (fr := (0, 0)) (heap_alloc_new wr _)) (by simp [Value.oneCell']) (by omega) (by simp [maxLen]; omega) (by omega) (by simp) (wr.heap.size + 1) (by simp) ?_; intro gg cap2 w2 hown hgrow hat hlt2; have q2' : w2.cell? ⟨w.heap.size + 1, 2, none⟩ = some vc := (by rw [hgrow.cell_far _ (by simp; omega) (fun e => by have := HFAR.out _ e.symm; simp at this), World.cell?_alloc_lt _ _ _ hql]; exact q2); have qf' : w2.frozen? ⟨w.heap.size + 1, 2, none⟩ = false := (by rw [hgrow.frozen_far _ (by simp; omega) (fun e => by have := HFAR.out _ e.symm; simp at this), World.frozen?_alloc_old _ _ _ (by show w.heap.size + 1 ≠ _; omega)]; exact qf)))
      have HN2 := hide2 (HR.out.addC (c := (gx, gy)) HX.out hown hgrow (by rcases hat with e | e; exact .inl e; right; omega))
      go_roundw
      case rel => exact ⟨m + 1, _, by omega, by go_num, by rw [HNX.out]; exact HN2⟩
      case measure => simp [intOf]; omega
    · obtain rfl : m = pN d := by omega
      rw [show (pCls d).take (pN d) = pCls d from List.take_of_length_le (by rw [pCls_len]; omega)] at HR
      have v1 : ((5 : Int) + 2 * (pN d : Int)).toNat = pD d := by unfold pD; omega
      have v2 : byteAt d (pD d) = (pM d : Int) := HM.out.symm
      go_upto_if 67 with (go_at_call 26; refine (at_any d _ _ (by omega)).mono ?_; rintro e1 w1 ⟨rfl, rfl⟩)
      have c3 := HR.out.blk.cell (j := 3) rfl
      have cf3 := HR.out.blk.frozen 3
      have hF : (pF d : Int) = 5 + 2 * (pN d : Int) + 1 + (pM d : Int) := by unfold pF pD; omega
      have w1 : ((5 : Int) + 2 * (pN d : Int) + 1).toNat = pD d + 1 := by unfold pD; omega
      have w2 : ((5 : Int) + 2 * (pN d : Int) + 1 + (pM d : Int)).toNat = pF d := by unfold pF pD; omega
      go_cut [3] from 61 (fun s3 w' => s3 = .int .i64 0 ∧ Hid (PBox (w.heap.size + 1) wa w' (w.heap.size + 1) st rest (pData d) vc (.slice none 0 0) (pCls d) []))
      case first =>
        by_cases hfit : pF d ≤ d.size
        · have hI : (5 : Int) + 2 * (pN d : Int) + 1 + (pM d : Int) ≤ (d.size : Int) := by omega
          have HPD : Hid (pData d = d.extract (pD d + 1) (pF d)) := by show _ = _; unfold pData; rw [if_pos hfit]
          go_wp2
          go_meet
          case rel => exact ⟨rfl, HR.out.num (j := 3) (.string (pData d)) (by rw [HPD.out]) st rest (pData d) rfl⟩
        · have hI : ¬ ((5 : Int) + 2 * (pN d : Int) + 1 + (pM d : Int) ≤ (d.size : Int)) := by omega
          have HPD : Hid (pData d = ⟨#[]⟩) := by show _ = _; unfold pData; rw [if_neg hfit]
          go_wp2
          go_meet
          case rel => exact ⟨rfl, by rw [HPD.out]; exact HR⟩
      case rest =>
        obtain ⟨rfl, HRD⟩ := hcut
        clear HR c3 cf3
        generalize wc = wd at *
        have v3 : byteAt d (pF d) = (pL d : Int) := HL.out.symm
        go_upto_region 17 with (go_at_call 26; refine (at_any d _ _ (by omega)).mono ?_; rintro e1 w1 ⟨rfl, rfl⟩)
        rw [← hF]
        have HF := hide2 hF
        clear hF
        go_wp2
        go_loopw [12] (fun i wr => ∃ (m : Nat) (vi : Value), m ≤ pL d ∧ i = .int .i64 (m : Int) ∧ Hid (PBox (w.heap.size + 1) wa wr (w.heap.size + 1) st rest (pData d) vc vi (pCls d) ((pCode d).take m))) (fun i _ => pL d - (intOf i).toNat)
        case atStart => exact ⟨0, _, by omega, rfl, HRD⟩
        case round =>
          obtain ⟨m, vi, hm, rfl, HR⟩ := hrel
          clear HRD
          by_cases hlt : m < pL d
          · have hmI : (m : Int) < (pL d : Int) := by omega
            have q4 := HR.out.blk.cell (j := 4) rfl
            have qf := HR.out.blk.frozen 4
            have hql := HR.out.blk.lt
            have hlen : ((pCode d).take m).length = m := by rw [List.length_take, pCode_len]; omega
            have HNX := hide2 (pCode_take d m hlt)
            have hF2 : pF d ≤ 1000 := by unfold pF pD; omega
            have u1 : ((pF d : Int) + 1 + 4 * (m : Int)).toNat = pF d + 1 + 4 * m := by omega
            have u2 : ((pF d : Int) + 1 + 4 * (m : Int) + 1).toNat = pF d + 1 + 4 * m + 1 := by omega
            have u3 : ((pF d : Int) + 1 + 4 * (m : Int) + 2).toNat = pF d + 1 + 4 * m + 2 := by omega
            have u4 : ((pF d : Int) + 1 + 4 * (m : Int) + 3).toNat = pF d + 1 + 4 * m + 3 := by omega
            go_upto_region 25 with (go_at_call 26; refine (at_any d _ _ (by omega)).mono ?_; rintro e1 w1 ⟨rfl, rfl⟩)
            have hpi : pIns d m = ⟨byteAt d (pF d + 1 + 4 * m), byteAt d (pF d + 1 + 4 * m + 1), byteAt d (pF d + 1 + 4 * m + 2), byteAt d (pF d + 1 + 4 * m + 3)⟩ := rfl
            have HPI := hide2 hpi
            clear hpi
            generalize byteAt d (pF d + 1 + 4 * m) = x0 at *
            generalize byteAt d (pF d + 1 + 4 * m + 1) = x1 at *
            generalize byteAt d (pF d + 1 + 4 * m + 2) = x2 at *
            generalize byteAt d (pF d + 1 + 4 * m + 3) = x3 at *
            generalize (pCode d).take m = cs at *
            have HX : Hid (Below wr.heap.size wr (wr.alloc (.cells #[.int .i64 x0, .int .i64 x1, .int .i64 x2, .int .i64 x3] 35))) := (Below.refl _ _).alloc (Nat.le_refl _) _
            have HRW := hide2 (HR.out.under HX.out).irow
            have HFAR := hide2 HR.out.ifar
            have hcm : cs.length ≤ 255 := by omega
            have HLEN := hide2 hlen
            clear hlen u1 u2 u3 u4
            go_wp2_with (at_builtin; go_loud (refine wpList_append_lies _ rfl _ _ _ rfl 0 35 j0 _ 4 32 Try.underlying25 hj0 hy0 hy1 hy2 rfl (by omega) vi cs.length (cs.flatMap insCells) rfl HRW.out ⟨wr.heap.size, 0, none⟩ 1 1 [.int .i64 x0, .int .i64 x1, .int .i64 x2, .int .i64 x3] rfl rfl (World.news_of_block (cs := #[.int .i64 x0, .int .i64 x1, .int .i64 x2, .int .i64 x3]) (t := 35) (fr := (0, 0)) (heap_alloc_new wr _)) (by simp [Value.oneCell']) (by omega) (by simp [maxLen]; omega) (by omega) (by simp) (wr.heap.size + 1) (by simp) ?_; intro gg cap2 w2 hown hgrow hat hlt2; have q4' : w2.cell? ⟨w.heap.size + 1, 4, none⟩ = some vi := (by rw [hgrow.cell_far _ (by simp; omega) (fun e => by have := HFAR.out _ e.symm; simp at this), World.cell?_alloc_lt _ _ _ hql]; exact q4); have qf' : w2.frozen? ⟨w.heap.size + 1, 4, none⟩ = false := (by rw [hgrow.frozen_far _ (by simp; omega) (fun e => by have := HFAR.out _ e.symm; simp at this), World.frozen?_alloc_old _ _ _ (by show w.heap.size + 1 ≠ _; omega)]; exact qf)))
            have HN2 := hide2 (HR.out.addI (c := ⟨x0, x1, x2, x3⟩) HX.out hown hgrow (by rcases hat with e | e; exact .inl e; right; omega))
            go_roundw
            case rel => exact ⟨m + 1, _, by omega, by go_num, by rw [HNX.out, HPI.out]; exact HN2⟩
            case measure => simp [intOf]; omega
          · obtain rfl : m = pL d := by omega
            rw [show (pCode d).take (pL d) = pCode d from List.take_of_length_le (by rw [pCode_len]; omega)] at HR
            obtain ⟨a, cap, rfl, hcr⟩ := CRow.of_row HR.out.crow
            obtain ⟨ia, icap, rfl, hir⟩ := IRow.of_row HR.out.irow
            have HCR := hide2 hcr
            have HIR := hide2 hir
            clear hcr hir
            have c0 := HR.out.blk.cell (j := 0) rfl
            have c1 := HR.out.blk.cell (j := 1) rfl
            have c2 := HR.out.blk.cell (j := 2) rfl
            have c3 := HR.out.blk.cell (j := 3) rfl
            have c4 := HR.out.blk.cell (j := 4) rfl
            go_wp2_with fail
            refine (rwrite_any st rest a cap (pCls d) (pData d) ia icap (pCode d) wr HCR.out HIR.out).mono ?_
            rintro e1 w1 ⟨rfl, hb1⟩
            have HR1 := hide2 (HR.out.under hb1)
            have HZ1 : Hid (Blk w1 w.heap.size 27 zProg) := (HZ.out.below (HR1.out.below) (by omega))
            clear hb1 c0 c1 c2 c3 c4 HCR HIR HR
            have c0 := HR1.out.blk.cell (j := 0) rfl
            have c1 := HR1.out.blk.cell (j := 1) rfl
            have c2 := HR1.out.blk.cell (j := 2) rfl
            have c3 := HR1.out.blk.cell (j := 3) rfl
            have c4 := HR1.out.blk.cell (j := 4) rfl
            have z0 := HZ1.out.cell (j := 0) rfl
            have z1 := HZ1.out.cell (j := 1) rfl
            have z2 := HZ1.out.cell (j := 2) rfl
            have z3 := HZ1.out.cell (j := 3) rfl
            have z4 := HZ1.out.cell (j := 4) rfl
            have zf0 := HZ1.out.frozen 0
            have zf1 := HZ1.out.frozen 1
            have zf2 := HZ1.out.frozen 2
            have zf3 := HZ1.out.frozen 3
            have zf4 := HZ1.out.frozen 4
            cases hB : imgB d with
            | true =>
              have hy := imgB_yes hB
              have HY := hide2 (o_yes hB)
              unfold pSound at hy
              rw [HST.out, HRE.out] at hy
              have hE : wErr st rest (pCls d) (pData d) (pCode d) = 0 := by unfold wErr; rw [if_pos hy.1]
              have hI : wImg st rest (pCls d) (pData d) (pCode d) = d := by unfold wImg; rw [if_pos hy.1]; exact hy.2
              rw [hE, hI]
              have HBL : Hid (Below w.heap.size w w1) := HBA.out.trans (HR1.out.below.mono (by omega))
              have HC1 := hide2 HR1.out.crow
              have HI1 := hide2 HR1.out.irow
              have hcf : ∀ g, (Value.slice a (pCls d).length cap).ownBlock = some g → g ≠ w.heap.size := fun g hg => by have := HR1.out.cfar g hg; omega
              have hif : ∀ g, (Value.slice ia (pCode d).length icap).ownBlock = some g → g ≠ w.heap.size := fun g hg => by have := HR1.out.ifar g hg; omega
              have HCF := hide2 hcf
              have HIF := hide2 hif
              clear hcf hif hy hE hI hB
              go_wp2
              refine bodyPost_ret (v := .tuple #[.agg #[.int .i64 st, .int .i64 rest, .slice a (pCls d).length cap, .string (pData d), .slice ia (pCode d).length icap], .int .i64 0]) (by simp [results, Try.results8, go_sem, z0, z1, z2, z3, z4]) rfl ?_
              obtain ⟨y0, y1, y2, y3, y4, y5⟩ := HY.out
              rw [y0, y1, y2, y3, y4, y5, HST.out, HRE.out]
              exact ⟨a, cap, ia, icap, rfl, ⟨row_set5 HC1.out HCF.out _ _ _ _ _, row_set5 HI1.out HIF.out _ _ _ _ _, fun g hg => by have := HR1.out.cfar g hg; omega, fun g hg => by have := HR1.out.ifar g hg; omega, HR1.out.apart⟩, below_set5 HBL.out _ _ _ _ _⟩
            | false =>
              have HBL : Hid (Below w.heap.size w w1) := HBA.out.trans (HR1.out.below.mono (by omega))
              have hx : wErr st rest (pCls d) (pData d) (pCode d) = 10 ∨ wErr st rest (pCls d) (pData d) (pCode d) = 0 ∧ wImg st rest (pCls d) (pData d) (pCode d) ≠ d := by
                unfold wErr wImg
                cases hs : soundB st rest (pCls d) (pData d).size (pCode d) with
                | false => simp
                | true =>
                  right
                  refine ⟨by simp, fun e => ?_⟩
                  simp only [if_true] at e
                  have := imgB_of (d := d) (by unfold pSound; rw [HST.out, HRE.out]; exact hs) (by rw [HST.out, HRE.out]; exact e)
                  rw [hB] at this
                  cases this
              have HY := hide2 (o_no hB)
              clear hB
              rcases hx with hE | ⟨hE, hI⟩
              · rw [hE]
                clear hE
                go_wp2
                refine bodyPost_ret (v := .tuple #[.agg zProg.toArray, .int .i64 10]) (by simp [results, Try.results8, go_sem, z0, z1, z2, z3, z4, zProg]) rfl ?_
                obtain ⟨y0, y1, y2, y3, y4, y5⟩ := HY.out
                rw [y0, y1, y2, y3, y4, y5]
                exact ⟨none, 0, none, 0, rfl, rows2_nil _ _, below_set5 HBL.out _ _ _ _ _⟩
              · rw [hE]
                clear hE
                generalize wImg st rest (pCls d) (pData d) (pCode d) = gi at *
                have hne := str_ne hI
                go_wp2
                refine bodyPost_ret (v := .tuple #[.agg zProg.toArray, .int .i64 10]) (by simp [results, Try.results8, go_sem, z0, z1, z2, z3, z4, zProg]) rfl ?_
                obtain ⟨y0, y1, y2, y3, y4, y5⟩ := HY.out
                rw [y0, y1, y2, y3, y4, y5]
                exact ⟨none, 0, none, 0, rfl, rows2_nil _ _, below_set5 HBL.out _ _ _ _ _⟩
end Go.Proofs.Ytjikemhmnkckcab
/- The law of Write. -/
namespace Go.Proofs.Ytjikemhmnkckcab
open Go.RowKit
attribute [local go_sem ↓] Go.wp_at_zero Go.wp_at_succ

theorem Blk.kept {w w' : World} {S : Nat → Prop} {b : Nat} {t : TypeId} {xs : List Value} (h : Blk w b t xs) (hk : Kept w w' S) (hs : ¬ S b) : Blk w' b t xs := (hk.block b h.lt hs).trans h

set_option maxRecDepth 100000 in
set_option maxHeartbeats 3200000 in
theorem writes_any (st rest : Int) (a : Option Addr) (cap : Nat) (cls : List (Int × Int)) (d : ByteArray) (ia : Option Addr) (icap : Nat) (code : List Ins) (w : World) (h : CRow w a cap cls) (hi : IRow w ia icap code) (hreach : cls.length * 16 ≤ 140737488351232) (hreach2 : code.length * 32 ≤ 140737488351232) :
    Calls Try.prog 4 #[.agg #[.int .i64 st, .int .i64 rest, .slice a cls.length cap, .string d, .slice ia code.length icap]] w fun e w' => e = .returned (.bool true) ∧ Below w.heap.size w w' := by
  obtain ⟨i0, hi0, hz0, hz1, hz2⟩ := info_parts info_ins
  have hil := hi.len
  have hic := hi.cap
  have hcl := h.len
  have hcc := h.cap
  unfold maxLen at hic hcc
  have HC := hide2 h
  have HI := hide2 hi
  obtain ⟨mc, hmc, hmk⟩ : ∃ mc : List Value, mc.length = (code.length + 1) * 4 ∧ ∀ w : World, (Instr.makeSlice 25 (.int .i64 ((code.length : Int) + 1)) (.int .i64 ((code.length : Int) + 1))).run Try.prog w = .ok (.slice (some ⟨w.heap.size, 0, none⟩) (code.length + 1) (code.length + 1)) (w.alloc (.cells mc.toArray 35)) := by
    refine ⟨(madeCells #[.int .i64 0, .int .i64 0, .int .i64 0, .int .i64 0] ((code.length + 1) * 4)).toList, by simp [size_madeCells], fun w => ?_⟩
    have hr := run_make (P := Try.prog) w 25 35 i0 (.agg #[.int .i64 0, .int .i64 0, .int .i64 0, .int .i64 0]) Try.underlying25 hi0 hz0 .i64 .i64 ((code.length : Int) + 1) ((code.length : Int) + 1) (by omega) (by omega) (by rw [hz2]; omega) (by omega)
    rw [hr, hz1]
    simp [show ((code.length : Int) + 1).toNat = code.length + 1 by omega, Value.cells]
  clear h hi
  go_enter Try.func4, Try.ntmps4
  go_upto_region 1 with (fail)
  obtain ⟨wa, hwa⟩ : ∃ wa, wa = w.alloc (.cells #[.int .i64 st, .int .i64 rest, .slice a cls.length cap, .string d, .slice ia code.length icap] 27) := ⟨_, rfl⟩
  rw [← hwa]
  have HBA : Hid (Below w.heap.size w wa) := by show Below _ _ _; rw [hwa]; exact (Below.refl _ _).alloc (Nat.le_refl _) _
  have HP : Hid (Blk wa w.heap.size 27 [.int .i64 st, .int .i64 rest, .slice a cls.length cap, .string d, .slice ia code.length icap]) := by show Blk _ _ _ _; rw [hwa]; exact Blk.alloc _ _ _
  have hwas : Hid (wa.heap.size = w.heap.size + 1) := by show _ = _; rw [hwa]; simp
  clear hwa
  have p0 := HP.out.cell (j := 0) rfl
  have p1 := HP.out.cell (j := 1) rfl
  have p2 := HP.out.cell (j := 2) rfl
  have p3 := HP.out.cell (j := 3) rfl
  go_cut [3] from 11 (fun s3 w' => ∃ ob L, s3 = .pointer (some ⟨ob, 0, none⟩) ∧ Hid (Blk w' ob 27 [.int .i64 st, .int .i64 rest, .slice (some ⟨L, 0, none⟩) cls.length (cls.length + 2), .string d, .slice none 0 0]) ∧ Hid (Blk w' L 37 (cls.flatMap clsCells ++ room4)) ∧ Hid (Below wa.heap.size wa w') ∧ ob ≠ L ∧ wa.heap.size ≤ ob ∧ wa.heap.size ≤ L)
  case first =>
    have hn0 := World.new_ne wa ⟨w.heap.size, 0, none⟩ p0
    go_region_held3 (fun w' => w'.cell? ⟨w.heap.size, 0, none⟩ = some (.int .i64 st) ∧ w'.cell? ⟨w.heap.size, 1, none⟩ = some (.int .i64 rest) ∧ w'.cell? ⟨w.heap.size, 2, none⟩ = some (.slice a cls.length cap) ∧ w'.cell? ⟨w.heap.size, 3, none⟩ = some (.string d)) (go_keep)
      (first
        | (go_at_call 12; refine (handed_any st rest a cap cls wa.drew ((HC.out.below HBA.out).below ((Below.refl _ _).drew)) hreach).mono ?_; rintro e1 w1 ⟨L, rfl, hb1, hL, hB⟩; have HB1 : Hid (Below wa.heap.size wa w1) := ⟨hb1.os, hb1.tape, hb1.output, hb1.size, hb1.block⟩; have HLB := hide2 hB; have hLw := HLB.out.lt; have p0' := (HB1.out.cell (p := ⟨w.heap.size, 0, none⟩) HP.out.lt).trans p0; have p1' := (HB1.out.cell (p := ⟨w.heap.size, 1, none⟩) HP.out.lt).trans p1; have p2' := (HB1.out.cell (p := ⟨w.heap.size, 2, none⟩) HP.out.lt).trans p2; have p3' := (HB1.out.cell (p := ⟨w.heap.size, 3, none⟩) HP.out.lt).trans p3; have hn1 := World.new_ne w1 ⟨w.heap.size, 0, none⟩ p0'; clear hb1 hB)
        | (go_at_call 12; refine (handed_any st rest a cap cls (wa.alloc (.cells #[.int .i64 0, .int .i64 0, .slice none 0 0, .string ⟨#[]⟩, .slice none 0 0] 27)).drew (((HC.out.below HBA.out).below ((Below.refl _ _).alloc (Nat.le_refl _) _)).below ((Below.refl _ _).drew)) hreach).mono ?_; rintro e1 w1 ⟨L, rfl, hb1, hL, hB⟩; have hB2 : Below (wa.heap.size + 1) (wa.alloc (.cells #[.int .i64 0, .int .i64 0, .slice none 0 0, .string ⟨#[]⟩, .slice none 0 0] 27)) w1 := ⟨hb1.os, hb1.tape, hb1.output, by have := hb1.size; simpa using this, fun b hb => hb1.block b (by simpa using hb)⟩; have HB1 : Hid (Below wa.heap.size wa w1) := ((Below.refl _ _).alloc (Nat.le_refl _) _).trans (hB2.mono (by omega)); have HLB := hide2 hB; have hLw := HLB.out.lt; have HRZ : Hid (Blk w1 wa.heap.size 27 [.int .i64 0, .int .i64 0, .slice none 0 0, .string ⟨#[]⟩, .slice none 0 0]) := (Blk.alloc wa 27 [.int .i64 0, .int .i64 0, .slice none 0 0, .string ⟨#[]⟩, .slice none 0 0]).below hB2 (by omega); have rz0 := HRZ.out.cell (j := 0) rfl; have rz1 := HRZ.out.cell (j := 1) rfl; have rz2 := HRZ.out.cell (j := 2) rfl; have rz3 := HRZ.out.cell (j := 3) rfl; have rz4 := HRZ.out.cell (j := 4) rfl; have rzf0 := HRZ.out.frozen 0; have rzf1 := HRZ.out.frozen 1; have rzf2 := HRZ.out.frozen 2; have rzf3 := HRZ.out.frozen 3; have rzf4 := HRZ.out.frozen 4; have hrzl := HRZ.out.lt; have p0' := (HB1.out.cell (p := ⟨w.heap.size, 0, none⟩) HP.out.lt).trans p0; have p1' := (HB1.out.cell (p := ⟨w.heap.size, 1, none⟩) HP.out.lt).trans p1; have p2' := (HB1.out.cell (p := ⟨w.heap.size, 2, none⟩) HP.out.lt).trans p2; have p3' := (HB1.out.cell (p := ⟨w.heap.size, 3, none⟩) HP.out.lt).trans p3; have hn1 := World.new_ne w1 ⟨w.heap.size, 0, none⟩ p0'; have HL1 : Hid (wa.heap.size + 1 ≤ L) := (by show _ ≤ _; have := hL; simpa using this); clear hb1 hB hB2))
    · go_wp2
      go_meet
      case rel => exact ⟨w1.heap.size, L, rfl, Blk.alloc w1 27 [.int .i64 st, .int .i64 rest, .slice (some ⟨L, 0, none⟩) cls.length (cls.length + 2), .string d, .slice none 0 0], HLB.out.below ((Below.refl _ _).alloc (Nat.le_refl _) _) hLw, HB1.out.alloc HB1.out.size _, by omega, HB1.out.size, hL⟩
    · go_wp2
      go_meet
      case rel =>
        refine ⟨wa.heap.size, L, rfl, ((((HRZ.out.setCell 0 _).setCell 1 _).setCell 2 _).setCell 3 _).setCell 4 _, ?_, ((((HB1.out.setCell (Nat.le_refl _) _).setCell (Nat.le_refl _) _).setCell (Nat.le_refl _) _).setCell (Nat.le_refl _) _).setCell (Nat.le_refl _) _, by have := HL1.out; omega, Nat.le_refl _, by have := HL1.out; omega⟩
        have hne : L ≠ wa.heap.size := by have := HL1.out; omega
        exact ((((HLB.out.setCell_other _ _ hne).setCell_other _ _ hne).setCell_other _ _ hne).setCell_other _ _ hne).setCell_other _ _ hne
  case rest =>
    obtain ⟨ob, L, rfl, HO, HL, HBW, hoL, hob, hLb⟩ := hcut
    have HBC : Hid (Below w.heap.size w wc) := HBA.out.trans (HBW.out.mono HBA.out.size)
    have HPC := hide2 (HP.out.below HBW.out HP.out.lt)
    have hws := hwas.out
    obtain ⟨W4, t0, t1, t2, t3, hrun, hblk4, hk4, hs4⟩ := copy_code code ia icap wc.heap.size mc (wc.alloc (.cells mc.toArray 35)) ((HI.out.below HBC.out).below ((Below.refl _ _).alloc (Nat.le_refl _) _)) hmc (heap_alloc_new wc _)
    have hfl := flat_len insCells 4 (fun _ => rfl) code
    have HAL : Hid (Below wc.heap.size wc (wc.alloc (.cells mc.toArray 35))) := (Below.refl _ _).alloc (Nat.le_refl _) _
    have HP4 := hide2 ((HPC.out.below HAL.out HPC.out.lt).kept hk4 (by have := HPC.out.lt; omega))
    have HO4 := hide2 ((HO.out.below HAL.out HO.out.lt).kept hk4 (by have := HO.out.lt; omega))
    have HL4 := hide2 ((HL.out.below HAL.out HL.out.lt).kept hk4 (by have := HL.out.lt; omega))
    have HB4 : Hid (Below w.heap.size w W4) := by
      have hk := hk4
      have h0 := HBC.out.size
      have hx := HBC.out.alloc (o := .cells mc.toArray 35) h0
      exact ⟨by rw [hk.os, hx.os], by rw [hk.tape, hx.tape], by rw [hk.output, hx.output], by have := hk.size; have := hx.size; omega, fun k hkk => (hk.block k (by have := hx.size; omega) (by omega)).trans (hx.block k hkk)⟩
    have HC4 := hide2 hblk4
    have n0 := hblk4.cell (j := code.length * 4) (v := t0) (by rw [List.getElem?_append_right (by omega)]; simp [hfl])
    have n1 := hblk4.cell (j := code.length * 4 + 1) (v := t1) (by rw [List.getElem?_append_right (by omega)]; simp [hfl])
    have n2 := hblk4.cell (j := code.length * 4 + 2) (v := t2) (by rw [List.getElem?_append_right (by omega)]; simp [hfl])
    have n3 := hblk4.cell (j := code.length * 4 + 3) (v := t3) (by rw [List.getElem?_append_right (by omega)]; simp [hfl])
    have f0 := hblk4.frozen (code.length * 4)
    have f1 := hblk4.frozen (code.length * 4 + 1)
    have f2 := hblk4.frozen (code.length * 4 + 2)
    have f3 := hblk4.frozen (code.length * 4 + 3)
    have c4 := HPC.out.cell (j := 4) rfl
    have c4' := (HPC.out.below HAL.out HPC.out.lt).cell (j := 4) rfl
    have c4b := HP4.out.cell (j := 4) rfl
    have o4 := HO4.out.cell (j := 4) rfl
    have of4 := HO4.out.frozen 4
    have q1 := HO4.out.lt
    have q2 := HPC.out.lt
    have q3 := HO.out.lt
    have q4 := HL.out.lt
    have x0 : (0 : Int) ≤ (code.length : Int) := by omega
    have x1 : (code.length : Int) ≤ (code.length : Int) + 1 := by omega
    have hadd : IntKind.i64.wrap ((code.length : Int) + 1) = (code.length : Int) + 1 := by unfold IntKind.wrap; simp [IntKind.bits, IntKind.signed]; omega
    clear hk4 hblk4 p0 p1 p2 p3 HP HO hwas HAL HPC
    go_upto_region 6 with (fail)
    obtain ⟨W5, hW5⟩ : ∃ W5, W5 = ((((W4.setCell ⟨wc.heap.size, code.length * 4, none⟩ (.int .i64 77)).setCell ⟨wc.heap.size, code.length * 4 + 1, none⟩ (.int .i64 0)).setCell ⟨wc.heap.size, code.length * 4 + 2, none⟩ (.int .i64 0)).setCell ⟨wc.heap.size, code.length * 4 + 3, none⟩ (.int .i64 0)).setCell ⟨ob, 4, none⟩ (.slice (some ⟨wc.heap.size, 0, none⟩) code.length (code.length + 1)) := ⟨_, rfl⟩
    rw [← hW5]
    have hpc : w.heap.size ≠ wc.heap.size := by omega
    have hoc : ob ≠ wc.heap.size := by omega
    have hLc : L ≠ wc.heap.size := by omega
    have hpo : w.heap.size ≠ ob := by omega
    have HC5 : Hid (Blk W5 wc.heap.size 35 (code.flatMap insCells ++ [.int .i64 77, .int .i64 0, .int .i64 0, .int .i64 0])) := by
      have e := ((((HC4.out.setCell (code.length * 4) (.int .i64 77)).setCell (code.length * 4 + 1) (.int .i64 0)).setCell (code.length * 4 + 2) (.int .i64 0)).setCell (code.length * 4 + 3) (.int .i64 0)).setCell_other ⟨ob, 4, none⟩ (.slice (some ⟨wc.heap.size, 0, none⟩) code.length (code.length + 1)) (fun e => hoc e.symm)
      rw [← hW5] at e
      have e2 : ((((code.flatMap insCells ++ [t0, t1, t2, t3]).set (code.length * 4) (.int .i64 77)).set (code.length * 4 + 1) (.int .i64 0)).set (code.length * 4 + 2) (.int .i64 0)).set (code.length * 4 + 3) (.int .i64 0) = code.flatMap insCells ++ [.int .i64 77, .int .i64 0, .int .i64 0, .int .i64 0] := by
        rw [List.set_append_right _ _ (by omega), List.set_append_right _ _ (by omega), List.set_append_right _ _ (by omega), List.set_append_right _ _ (by omega), hfl,
          show code.length * 4 - code.length * 4 = 0 by omega, show code.length * 4 + 1 - code.length * 4 = 1 by omega, show code.length * 4 + 2 - code.length * 4 = 2 by omega, show code.length * 4 + 3 - code.length * 4 = 3 by omega]
        rfl
      rw [e2] at e
      exact e
    have HP5 : Hid (Blk W5 w.heap.size 27 [.int .i64 st, .int .i64 rest, .slice a cls.length cap, .string d, .slice ia code.length icap]) := by
      show Blk _ _ _ _
      rw [hW5]
      exact ((((HP4.out.setCell_other _ _ hpc).setCell_other _ _ hpc).setCell_other _ _ hpc).setCell_other _ _ hpc).setCell_other _ _ hpo
    have HO5 : Hid (Blk W5 ob 27 [.int .i64 st, .int .i64 rest, .slice (some ⟨L, 0, none⟩) cls.length (cls.length + 2), .string d, .slice (some ⟨wc.heap.size, 0, none⟩) code.length (code.length + 1)]) := by
      show Blk _ _ _ _
      rw [hW5]
      exact ((((HO4.out.setCell_other _ _ hoc).setCell_other _ _ hoc).setCell_other _ _ hoc).setCell_other _ _ hoc).setCell 4 _
    have HL5 : Hid (Blk W5 L 37 (cls.flatMap clsCells ++ room4)) := by
      show Blk _ _ _ _
      rw [hW5]
      exact ((((HL4.out.setCell_other _ _ hLc).setCell_other _ _ hLc).setCell_other _ _ hLc).setCell_other _ _ hLc).setCell_other _ _ (fun e => hoL e.symm)
    have HB5 : Hid (Below w.heap.size w W5) := by
      show Below _ _ _
      rw [hW5]
      exact ((((HB4.out.setCell (by show _ ≤ wc.heap.size; omega) _).setCell (by show _ ≤ wc.heap.size; omega) _).setCell (by show _ ≤ wc.heap.size; omega) _).setCell (by show _ ≤ wc.heap.size; omega) _).setCell (by show _ ≤ ob; omega) _
    clear hW5 n0 n1 n2 n3 f0 f1 f2 f3 c4 c4' c4b o4 of4 hrun HC4 HP4 HO4 HL4 HB4
    generalize hcb : wc.heap.size = cb at *
    have d0 := HO5.out.cell (j := 0) rfl
    have d1 := HO5.out.cell (j := 1) rfl
    have d2 := HO5.out.cell (j := 2) rfl
    have d3 := HO5.out.cell (j := 3) rfl
    have d4 := HO5.out.cell (j := 4) rfl
    have hcm : code.length + 1 ≤ maxLen := by simp [maxLen]; omega
    have hcm2 : cls.length + 2 ≤ maxLen := by simp [maxLen]; omega
    have HCM := hide2 hcm
    have HCM2 := hide2 hcm2
    clear hcm hcm2
    go_wp2_with fail
    refine (gwrite_any st rest _ _ cls d _ _ code W5 (crow_own HL5.out HCM2.out) (irow_own HC5.out (by omega) HCM.out)).mono ?_
    rintro e1 W6 ⟨rfl, hb6⟩
    have HB6 := hide2 hb6
    have HW6 : Hid (Below w.heap.size w W6) := HB5.out.trans (hb6.mono HB5.out.size)
    have HP6 := hide2 (HP5.out.below hb6 HP5.out.lt)
    clear hb6 d0 d1 d2 d3 d4
    have p0 := HP6.out.cell (j := 0) rfl
    have p1 := HP6.out.cell (j := 1) rfl
    have p2 := HP6.out.cell (j := 2) rfl
    have p3 := HP6.out.cell (j := 3) rfl
    have p4 := HP6.out.cell (j := 4) rfl
    go_wp2_with fail
    refine (rwrite_any st rest a cap cls d ia icap code W6 (HC.out.below HW6.out) (HI.out.below HW6.out)).mono ?_
    rintro e2 W7 ⟨rfl, hb7⟩
    have HB7 : Hid (Below W5.heap.size W5 W7) := HB6.out.trans (hb7.mono HB6.out.size)
    have HW7 : Hid (Below w.heap.size w W7) := HB5.out.trans (HB7.out.mono HB5.out.size)
    have HP7 := hide2 (HP5.out.below HB7.out HP5.out.lt)
    have HO7 := hide2 (HO5.out.below HB7.out HO5.out.lt)
    have HL7 := hide2 (HL5.out.below HB7.out HL5.out.lt)
    have HC7 := hide2 (HC5.out.below HB7.out HC5.out.lt)
    clear hb7 p0 p1 p2 p3 p4 HB6 HW6 HP6 HB7 HB5 HP5 HO5 HL5 HC5
    have p0 := HP7.out.cell (j := 0) rfl
    have p1 := HP7.out.cell (j := 1) rfl
    have p2 := HP7.out.cell (j := 2) rfl
    have p3 := HP7.out.cell (j := 3) rfl
    have p4 := HP7.out.cell (j := 4) rfl
    have d0 := HO7.out.cell (j := 0) rfl
    have d1 := HO7.out.cell (j := 1) rfl
    have d2 := HO7.out.cell (j := 2) rfl
    have d3 := HO7.out.cell (j := 3) rfl
    have d4 := HO7.out.cell (j := 4) rfl
    go_wp2_with fail
    refine (sameProgram_any st rest _ _ _ _ cls d _ _ _ _ code W7 (crow_own HL7.out HCM2.out) (HC.out.below HW7.out) (irow_own HC7.out (by omega) HCM.out) (HI.out.below HW7.out)).mono ?_
    rintro e3 W8 ⟨rfl, hb8⟩
    have HB8 := hide2 hb8
    have HW8 : Hid (Below w.heap.size w W8) := HW7.out.trans (hb8.mono HW7.out.size)
    have HP8 := hide2 (HP7.out.below hb8 HP7.out.lt)
    have HO8 := hide2 (HO7.out.below hb8 HO7.out.lt)
    have HL8 := hide2 (HL7.out.below hb8 HL7.out.lt)
    have HC8 := hide2 (HC7.out.below hb8 HC7.out.lt)
    clear hb8 p0 p1 p2 p3 p4 d0 d1 d2 d3 d4 HB8 HW7 HP7 HO7 HL7 HC7
    have p0 := HP8.out.cell (j := 0) rfl
    have p1 := HP8.out.cell (j := 1) rfl
    have p2 := HP8.out.cell (j := 2) rfl
    have d0 := HO8.out.cell (j := 0) rfl
    have d1 := HO8.out.cell (j := 1) rfl
    have d2 := HO8.out.cell (j := 2) rfl
    go_wp2_with fail
    refine (still_any st rest a cap L cls W8 HL8.out (HC.out.below HW8.out) hreach).mono ?_
    rintro e4 W9 ⟨rfl, hk9⟩
    have HW9 : Hid (Below w.heap.size w W9) := by
      have hx := HW8.out
      exact ⟨by rw [hk9.os, hx.os], by rw [hk9.tape, hx.tape], by rw [hk9.output, hx.output], by have := hk9.size; have := hx.size; omega, fun k hkk => (hk9.block k (by have := hx.size; omega) (by omega)).trans (hx.block k hkk)⟩
    have HP9 := hide2 (HP8.out.kept hk9 (by omega))
    have HC9 := hide2 (HC8.out.kept hk9 (fun e => hLc e.symm))
    clear hk9 p0 p1 p2 d0 d1 d2 HW8 HP8 HO8 HL8 HC8
    have p4 := HP9.out.cell (j := 4) rfl
    have m0 := HC9.out.cell (j := code.length * 4) (v := .int .i64 77) (by rw [List.getElem?_append_right (by omega)]; simp [hfl])
    have e77 : ((77 : Int) == 77) = true := by decide
    go_wp2_with (go_at_call 10; refine (lnum_any _ _).mono ?_; rintro e1 w6 ⟨rfl, rfl⟩)
    all_goals go_ret
    all_goals exact ⟨rfl, HW9.out⟩
end Go.Proofs.Ytjikemhmnkckcab
