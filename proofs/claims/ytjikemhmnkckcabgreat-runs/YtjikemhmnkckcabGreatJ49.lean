import Derived.Test.YtjikemhmnkckcabGreatJ48
import Derived.Deep.CutRange
/- The document's machine: Free, Usable (written by gendoc.py). -/
namespace Go.Proofs.YtjikemhmnkckcabGreat
open Go.RowKit
attribute [local go_sem ↓] Go.wp_at_zero Go.wp_at_succ

/-- A report that lies ready. -/
structure RptIn (F : SFix) (wB : World) (vl vm : Value) (r : Rpt) (rb : Nat) (v : Value) (w : World) : Prop where
  blk : Blk w rb 26 (rptCells r v)
  row : w.ownsRow 0 64 3 v r.near.length (r.near.flatMap nearCells)
  own : ∀ g, v.ownBlock = some g → wB.heap.size ≤ g ∧ g ≠ F.sb ∧ ¬ RFoot F.ph F.vc vl vm g
section
variable {F : SFix} {wB w w' wc : World} {vl vm vn vl' vm' : Value} {da : Option Addr} {dcap : Nat} {S : MS} {r : Rpt} {rb : Nat} {v : Value}
theorem RptIn.under (h : RptIn F wB vl vm r rb v w) (hb : Below w.heap.size w w') : RptIn F wB vl vm r rb v w' := ⟨h.blk.below hb h.blk.lt, row_below h.row hb (own_lt h.row), h.own⟩
theorem RptAt.ready (hA : RptAt w r rb v wc) (h : SRep F wB w vl vm vn da dcap S) : RptIn F wB vl vm r rb v wc := by
  have hs := h.below.size
  exact ⟨hA.blk, hA.near.row, fun g hg => ⟨by have := hA.near.vlo g hg; omega, fun e => by have := hA.near.vlo g hg; have := h.blk.lt; omega, fun e => by have := hA.near.vlo g hg; have := h.heap.foot_lt2 e; omega⟩⟩
/-- A call of the heap leaves it. -/
theorem RptAt.called {R' : RSt} (hA : RptAt w r rb v wc) (h : SRep F wB w vl vm vn da dcap S) (hg : RGone wc F.ph F.vc vl vm w' vl' vm' R') : RptIn F wB vl' vm' r rb v w' := by
  have hs := h.below.size
  have hR := hA.ready h
  have hk := hg.kept
  refine ⟨hA.blk.kept hk (fun e => by have := h.heap.foot_lt2 e; have := hA.fresh; omega), row_kept hA.near.row (fun g hg => hk.block g (own_lt hA.near.row g hg) (hR.own g hg).2.2), fun g hg' => ⟨(hR.own g hg').1, (hR.own g hg').2.1, fun e => ?_⟩⟩
  have hlt := own_lt hA.near.row g hg'
  rcases e with e | e | e | e
  · exact (hR.own g hg').2.2 (.inl e)
  · exact (hR.own g hg').2.2 (.inr (.inl e))
  · rcases hg.newL g e with e | e
    · exact (hR.own g hg').2.2 (.inr (.inr (.inl e)))
    · omega
  · rcases hg.newM g e with e | e
    · exact (hR.own g hg').2.2 (.inr (.inr (.inr e)))
    · omega
theorem SRep.faultY (h : SRep F wB w vl vm vn da dcap S) (hr : RptIn F wB vl vm r rb v w) (er : Int) (he : er ≠ 0) : Calls Tryz.prog 38 #[.pointer (some ⟨F.sb, 0, none⟩), .int .i64 er, rptV r v] w fun e w' => e = .returned (.tuple #[]) ∧ SRep F wB w' vl vm v da dcap (S.fault r) ∧ Kept w w' (· = F.sb) := by
  obtain ⟨na, ncap, hv, -, -, -⟩ := row_open hr.row
  subst hv
  exact sfault_yes F wB w vl vm vn da dcap S er r na _ ncap h he hr.row hr.own
theorem SRep.faultN (h : SRep F wB w vl vm vn da dcap S) (hr : RptIn F wB vl vm r rb v w) : Calls Tryz.prog 38 #[.pointer (some ⟨F.sb, 0, none⟩), .int .i64 0, rptV r v] w fun e w' => e = .returned (.tuple #[]) ∧ SRep F wB w' vl vm vn da dcap S ∧ Kept w w' (· = F.sb) := by
  obtain ⟨na, ncap, hv, -, -, -⟩ := row_open hr.row
  subst hv
  refine (sfault_no F wB w vl vm vn da dcap S r na _ ncap h).mono ?_
  rintro e w' ⟨rfl, h1, h2⟩
  exact ⟨rfl, h1, Kept.of_below h2 _⟩
/-- What a fault leaves: none, or the run has ended. -/
def MS.faults (S : MS) (er : Int) (r : Rpt) : MS := if er = 0 then S else S.fault r
theorem SRep.faulting (h : SRep F wB w vl vm vn da dcap S) (hr : RptIn F wB vl vm r rb v w) (er : Int) : Calls Tryz.prog 38 #[.pointer (some ⟨F.sb, 0, none⟩), .int .i64 er, rptV r v] w fun e w' => e = .returned (.tuple #[]) ∧ (∃ vn', SRep F wB w' vl vm vn' da dcap (S.faults er r)) ∧ Kept w w' (· = F.sb) := by
  by_cases he : er = 0
  · subst he
    refine (h.faultN hr).mono ?_
    rintro e w' ⟨rfl, h1, h2⟩
    exact ⟨rfl, ⟨vn, by unfold MS.faults; rw [if_pos rfl]; exact h1⟩, h2⟩
  · refine (h.faultY hr er he).mono ?_
    rintro e w' ⟨rfl, h1, h2⟩
    exact ⟨rfl, ⟨v, by unfold MS.faults; rw [if_neg he]; exact h1⟩, h2⟩
theorem SRep.explains (h : SRep F wB w vl vm vn da dcap S) (q n : Int) (q1 : q ≤ 9223372036854775807) (hb : Below w.heap.size w w') : Calls Tryz.prog 63 #[.pointer (some ⟨F.ph, 0, none⟩), .int .i64 q, .int .i64 n] w' fun e w2 => ∃ v, e = .returned (rptV (rexplain S.R q n) v) ∧ NearRel w' (rexplain S.R q n).near v w2 :=
  rexplain_any F.ph F.vc vl vm S.R q n w' (h.under hb).heap h.rok q1
theorem SRep.blames (h : SRep F wB w vl vm vn da dcap S) (q : Int) (q1 : q ≤ 9223372036854775807) (hb : Below w.heap.size w w') : Calls Tryz.prog 37 #[.pointer (some ⟨F.ph, 0, none⟩), .int .i64 q] w' fun e w2 => ∃ v, e = .returned (rptV (rblame S.R q) v) ∧ NearRel w' (rblame S.R q).near v w2 :=
  rblame_any F.ph F.vc vl vm S.R q w' (h.under hb).heap h.rok q1
/-- The last thing that is done: a register is set, be there a fault or not. -/
theorem SRep.last {er : Int} (h : SRep F wB w vl vm vn da dcap (S.faults er r)) (k : Nat) (hk : k < 8) (u : Int) (u0 : -9223372036854775808 ≤ u) (u1 : u ≤ 9223372036854775807) (hb : Below (w.setCell ⟨F.sb, 6 + k, none⟩ (.int .i64 u)).heap.size (w.setCell ⟨F.sb, 6 + k, none⟩ (.int .i64 u)) w') {S' : MS} (hS : S' = if er = 0 then S.reg k u else S.fault r) : SDone F wB w' S' := by
  subst hS
  have h2 := (h.setReg k hk u u0 u1).under hb
  by_cases he : er = 0
  · rw [if_pos he]
    unfold MS.faults at h2
    rw [if_pos he] at h2
    exact SDone.of h2
  · rw [if_neg he]
    unfold MS.faults at h2
    rw [if_neg he] at h2
    exact ⟨vl, vm, vn, da, dcap, _, h2, fun e => absurd e (by show ¬ (5 : Int) = 0; omega)⟩
end

set_option maxRecDepth 100000 in
set_option maxHeartbeats 3200000 in
theorem sdo_free (F : SFix) (wB w : World) (vl vm vn : Value) (da : Option Addr) (dcap : Nat) (S : MS) (ka : Nat) (b c : Int) (h : SRep F wB w vl vm vn da dcap S) (hka : ka < 8) (hL : S.R.log.length ≤ 1048576) (hM : S.R.marks.length ≤ 1099511627776) :
    Calls Tryz.prog 20 #[.pointer (some ⟨F.sb, 0, none⟩), .agg #[.int .i64 12, .int .i64 (ka : Int), .int .i64 b, .int .i64 c]] w fun e w' => e = .returned (.tuple #[]) ∧ SDone F wB w' (dFree S ka) := by
  obtain ⟨wa, hwa⟩ : ∃ wa, wa = w.alloc (.cells #[.int .i64 12, .int .i64 (ka : Int), .int .i64 b, .int .i64 c] 60) := ⟨_, rfl⟩
  have hbl : Below w.heap.size w wa := by rw [hwa]; exact (Below.refl _ _).alloc (Nat.le_refl _) _
  have HX : Hid (Blk wa w.heap.size 60 [.int .i64 12, .int .i64 (ka : Int), .int .i64 b, .int .i64 c]) := by show Blk _ _ _ _; rw [hwa]; exact Blk.alloc _ _ _
  have HM := hide2 (h.under hbl)
  have hxsb : w.heap.size ≠ F.sb := by have := h.blk.lt; omega
  have kaI : (ka : Int) < 8 := by omega
  have x0 := HX.out.cell (j := 0) rfl
  have x1 := HX.out.cell (j := 1) rfl
  have hrb := h.rbd ka hka
  have ra := HM.out.reg ka hka
  have c5 := HM.out.c2
  have c20 := HM.out.c20
  have hsl := HM.out.blk.lt
  have hol := HX.out.lt
  have HROK := hide2 h.rok
  have HSIM := hide2 h.sim
  have HNF : Hid (¬ RFoot F.ph F.vc vl vm w.heap.size) := fun e => by have := h.heap.foot_lt2 e; omega
  have HD : Hid (dFree S ka = if fOut S.R (rg S.r ka) = 0 then S.heap (fR S.R (rg S.r ka) S.pc) else (S.heap (fR S.R (rg S.r ka) S.pc)).fault (rblame (fR S.R (rg S.r ka) S.pc) (rg S.r ka))) := rfl
  generalize dFree S ka = S' at *
  generalize hq : rg S.r ka = q at *
  generalize hpc : (S.pc : Int) = pc at *
  clear h hbl
  go_enter Tryz.func20, Tryz.ntmps20
  go_upto_region 1 with (fail)
  rw [← hwa]
  clear hwa
  go_upto_region 31 with (fail)
  go_region_held3 (fun w' => w'.cell? ⟨F.sb, 5, none⟩ = some (.pointer (some ⟨F.ph, 0, none⟩)) ∧ w'.cell? ⟨w.heap.size, 1, none⟩ = some (.int .i64 (ka : Int)) ∧ w'.cell? ⟨F.sb, 6 + ka, none⟩ = some (.int .i64 q) ∧ w'.cell? ⟨F.sb, 20, none⟩ = some (.int .i64 pc)) (go_keep)
    (first | (go_at_call 36; refine (rt_free F.ph F.vc vl vm S.R wa.drew (HM.out.under ((Below.refl _ _).drew)).heap HROK.out (by omega) (by omega) q pc hrb.2).mono ?_; rintro e1 w1 ⟨vl1, vm1, rfl, hg1⟩; have HM1 := hide2 ((HM.out.under ((Below.refl _ _).drew)).call hg1 (RGood.free HSIM.out q pc).sim); have HX1 := hide2 ((HX.out.below ((Below.refl _ _).drew) hol).kept hg1.kept HNF.out); clear hg1; have k5 := HM1.out.c2; have k1 := HX1.out.cell (j := 1) rfl; have kr : w1.cell? ⟨F.sb, 6 + ka, none⟩ = some (.int .i64 q) := (HM1.out.reg ka hka).trans (by rw [← hq]; rfl); have k20 : w1.cell? ⟨F.sb, 20, none⟩ = some (.int .i64 pc) := HM1.out.c20.trans (by rw [← hpc]; rfl)))
  clear c5 x1 ra c20 x0 k20 hol hsl HX
  have hsl := HM1.out.blk.lt
  have hol := HX1.out.lt
  obtain ⟨rp, HRP⟩ : ∃ rp, Hid (rblame (S.heap (fR S.R q pc)).R q = rp) := ⟨_, hide2 rfl⟩
  have HDD : Hid (S' = if fOut S.R q = 0 then S.heap (fR S.R q pc) else (S.heap (fR S.R q pc)).fault rp) := by show _ = _; rw [HD.out, ← HRP.out]; rfl
  generalize hfo : fOut S.R q = er at *
  clear HD
  go_upto_region 32 with (fail)
  go_cut [5] from 9 (fun s w' => ∃ pb v, s = .pointer (some ⟨pb, 0, none⟩) ∧ RptAt w1 rp pb v w')
  case first =>
    have mk5 := World.new_ne w1 ⟨F.sb, 5, none⟩ k5
    have mk1 := World.new_ne w1 ⟨w.heap.size, 1, none⟩ k1
    have mkr := World.new_ne w1 ⟨F.sb, 6 + ka, none⟩ kr
    go_region_held3 (fun w' => w'.cell? ⟨F.sb, 5, none⟩ = some (.pointer (some ⟨F.ph, 0, none⟩)) ∧ w'.cell? ⟨w.heap.size, 1, none⟩ = some (.int .i64 (ka : Int)) ∧ w'.cell? ⟨F.sb, 6 + ka, none⟩ = some (.int .i64 q)) (go_keep)
      (first
        | (go_at_call 37; refine (HM1.out.blames (w' := w1.drew) q hrb.2 ((Below.refl _ _).drew)).mono ?_; rw [HRP.out]; rintro e1 w3 ⟨v, rfl, hn⟩; obtain ⟨na, ncap, hv, -, -, -⟩ := row_open hn.row; subst hv; have HB1 : Hid (Below w1.heap.size w1 w3) := ⟨hn.below.os, hn.below.tape, hn.below.output, hn.below.size, hn.below.block⟩; have HNR : Hid (NearRel w1 rp.near (.slice na rp.near.length ncap) w3) := ⟨HB1.out, hn.row, hn.vlo⟩; have k51 : w3.cell? ⟨F.sb, 5, none⟩ = some (.pointer (some ⟨F.ph, 0, none⟩)) := (HB1.out.cell (p := ⟨F.sb, 5, none⟩) hsl).trans k5; have nk5 := World.new_ne w3 ⟨F.sb, 5, none⟩ k51; have k11 : w3.cell? ⟨w.heap.size, 1, none⟩ = some (.int .i64 (ka : Int)) := (HB1.out.cell (p := ⟨w.heap.size, 1, none⟩) hol).trans k1; have nk1 := World.new_ne w3 ⟨w.heap.size, 1, none⟩ k11; have kr1 : w3.cell? ⟨F.sb, 6 + ka, none⟩ = some (.int .i64 q) := (HB1.out.cell (p := ⟨F.sb, 6 + ka, none⟩) hsl).trans kr; have nkr := World.new_ne w3 ⟨F.sb, 6 + ka, none⟩ kr1; unfold rptV rptCells; clear hn)
        | (go_at_call 37; refine (HM1.out.blames (w' := (w1.alloc (.cells #[.int .i64 0, .int .i64 0, .int .i64 0, .int .i64 0, .int .i64 0, .int .i64 0, .int .i64 0, .int .i64 0, .int .i64 0, .slice none 0 0] 26)).drew) q hrb.2 (((Below.refl _ _).alloc (Nat.le_refl _) _).drew)).mono ?_; rw [HRP.out]; rintro e1 w3 ⟨v, rfl, hn⟩; obtain ⟨na, ncap, hv, -, -, -⟩ := row_open hn.row; subst hv; have hB2 : Below (w1.heap.size + 1) (w1.alloc (.cells (rptCells (Rpt.only 0) (.slice none 0 0)).toArray 26)) w3 := ⟨hn.below.os, hn.below.tape, hn.below.output, by have := hn.below.size; simpa using this, fun b hb => hn.below.block b (by simpa using hb)⟩; have HB1 : Hid (Below w1.heap.size w1 w3) := ((Below.refl _ _).alloc (Nat.le_refl _) _).trans (hB2.mono (by omega)); have HRW := hide2 hn.row; have HVL : Hid (∀ g, (Value.slice na rp.near.length ncap).ownBlock = some g → w1.heap.size + 1 ≤ g) := (fun g hg => (by have := hn.vlo g hg; simpa using this)); have HRZ : Hid (Blk w3 w1.heap.size 26 (rptCells (Rpt.only 0) (.slice none 0 0))) := (Blk.alloc w1 26 (rptCells (Rpt.only 0) (.slice none 0 0))).below hB2 (by omega); have rz0 := HRZ.out.cell (j := 0) rfl; have rzf0 := HRZ.out.frozen 0; have rz1 := HRZ.out.cell (j := 1) rfl; have rzf1 := HRZ.out.frozen 1; have rz2 := HRZ.out.cell (j := 2) rfl; have rzf2 := HRZ.out.frozen 2; have rz3 := HRZ.out.cell (j := 3) rfl; have rzf3 := HRZ.out.frozen 3; have rz4 := HRZ.out.cell (j := 4) rfl; have rzf4 := HRZ.out.frozen 4; have rz5 := HRZ.out.cell (j := 5) rfl; have rzf5 := HRZ.out.frozen 5; have rz6 := HRZ.out.cell (j := 6) rfl; have rzf6 := HRZ.out.frozen 6; have rz7 := HRZ.out.cell (j := 7) rfl; have rzf7 := HRZ.out.frozen 7; have rz8 := HRZ.out.cell (j := 8) rfl; have rzf8 := HRZ.out.frozen 8; have rz9 := HRZ.out.cell (j := 9) rfl; have rzf9 := HRZ.out.frozen 9; have hrzl := HRZ.out.lt; have k51 : w3.cell? ⟨F.sb, 5, none⟩ = some (.pointer (some ⟨F.ph, 0, none⟩)) := (HB1.out.cell (p := ⟨F.sb, 5, none⟩) hsl).trans k5; have nk5 := World.new_ne w3 ⟨F.sb, 5, none⟩ k51; have k11 : w3.cell? ⟨w.heap.size, 1, none⟩ = some (.int .i64 (ka : Int)) := (HB1.out.cell (p := ⟨w.heap.size, 1, none⟩) hol).trans k1; have nk1 := World.new_ne w3 ⟨w.heap.size, 1, none⟩ k11; have kr1 : w3.cell? ⟨F.sb, 6 + ka, none⟩ = some (.int .i64 q) := (HB1.out.cell (p := ⟨F.sb, 6 + ka, none⟩) hsl).trans kr; have nkr := World.new_ne w3 ⟨F.sb, 6 + ka, none⟩ kr1; unfold rptV rptCells; clear hn hB2))
    · go_wp2
      go_meet
      case rel => exact ⟨_, _, rfl, RptAt.behind HNR.out⟩
    · go_wp2
      go_meet
      case rel => exact ⟨_, _, rfl, RptAt.ahead HRZ.out HB1.out HRW.out HVL.out⟩
  case rest =>
    obtain ⟨pb, vr, rfl, hA⟩ := hcut
    have HR := hide2 (hA.ready HM1.out)
    have HM2 := hide2 (HM1.out.under hA.near.below)
    obtain ⟨na, ncap, hv, -, -, -⟩ := row_open hA.near.row
    subst hv
    clear hA k5 k1 kr
    generalize wc = w5 at *
    have r0 := HR.out.blk.cell (j := 0) rfl
    have r1 := HR.out.blk.cell (j := 1) rfl
    have r2 := HR.out.blk.cell (j := 2) rfl
    have r3 := HR.out.blk.cell (j := 3) rfl
    have r4 := HR.out.blk.cell (j := 4) rfl
    have r5 := HR.out.blk.cell (j := 5) rfl
    have r6 := HR.out.blk.cell (j := 6) rfl
    have r7 := HR.out.blk.cell (j := 7) rfl
    have r8 := HR.out.blk.cell (j := 8) rfl
    have r9 := HR.out.blk.cell (j := 9) rfl
    go_wp2_with (go_at_call 38; refine (HM2.out.faulting HR.out er).mono ?_; rintro e4 w6 ⟨rfl, ⟨vn6, hm6⟩, hk6⟩; have HM6 := hide2 hm6; clear hm6 hk6)
    go_end0
    exact ⟨rfl, SDone.of (by rw [HDD.out]; exact HM6.out)⟩

set_option maxRecDepth 100000 in
set_option maxHeartbeats 3200000 in
theorem sdo_usable (F : SFix) (wB w : World) (vl vm vn : Value) (da : Option Addr) (dcap : Nat) (S : MS) (ka kb : Nat) (c : Int) (h : SRep F wB w vl vm vn da dcap S) (hka : ka < 8) (hkb : kb < 8) :
    Calls Tryz.prog 20 #[.pointer (some ⟨F.sb, 0, none⟩), .agg #[.int .i64 14, .int .i64 (ka : Int), .int .i64 (kb : Int), .int .i64 c]] w fun e w' => e = .returned (.tuple #[]) ∧ SDone F wB w' (dUsable S ka kb) := by
  obtain ⟨wa, hwa⟩ : ∃ wa, wa = w.alloc (.cells #[.int .i64 14, .int .i64 (ka : Int), .int .i64 (kb : Int), .int .i64 c] 60) := ⟨_, rfl⟩
  have hbl : Below w.heap.size w wa := by rw [hwa]; exact (Below.refl _ _).alloc (Nat.le_refl _) _
  have HX : Hid (Blk wa w.heap.size 60 [.int .i64 14, .int .i64 (ka : Int), .int .i64 (kb : Int), .int .i64 c]) := by show Blk _ _ _ _; rw [hwa]; exact Blk.alloc _ _ _
  have HM := hide2 (h.under hbl)
  have hxsb : w.heap.size ≠ F.sb := by have := h.blk.lt; omega
  have kaI : (ka : Int) < 8 := by omega
  have kbI : (kb : Int) < 8 := by omega
  have x0 := HX.out.cell (j := 0) rfl
  have x2 := HX.out.cell (j := 2) rfl
  have hrb := h.rbd kb hkb
  have rb := HM.out.reg kb hkb
  have c5 := HM.out.c2
  have hsl := HM.out.blk.lt
  have hol := HX.out.lt
  have HROK := hide2 h.rok
  have hub := musable_bd h.rok (rg S.r kb)
  have HD : Hid (dUsable S ka kb = if (S.R.usable (rg S.r kb)).2 = 0 then S.reg ka (S.R.usable (rg S.r kb)).1 else S.fault (rblame S.R (rg S.r kb))) := rfl
  generalize dUsable S ka kb = S' at *
  generalize hq : rg S.r kb = q at *
  clear h hbl
  go_enter Tryz.func20, Tryz.ntmps20
  go_upto_region 1 with (fail)
  rw [← hwa]
  clear hwa
  go_upto_region 35 with (fail)
  go_region_held3 (fun w' => w'.cell? ⟨F.sb, 5, none⟩ = some (.pointer (some ⟨F.ph, 0, none⟩)) ∧ w'.cell? ⟨w.heap.size, 2, none⟩ = some (.int .i64 (kb : Int)) ∧ w'.cell? ⟨F.sb, 6 + kb, none⟩ = some (.int .i64 q)) (go_keep)
    (first | (go_at_call 39; refine (rusable_any F.ph F.vc vl vm S.R q wa.drew (HM.out.under ((Below.refl _ _).drew)).heap HROK.out hrb.2).mono ?_; rintro e1 w1 ⟨rfl, hb1⟩; have HM1 := hide2 ((HM.out.under ((Below.refl _ _).drew)).under hb1); have HX1 := hide2 ((HX.out.below ((Below.refl _ _).drew) hol).below hb1 hol); clear hb1; have k5 := HM1.out.c2; have k2 := HX1.out.cell (j := 2) rfl; have kr : w1.cell? ⟨F.sb, 6 + kb, none⟩ = some (.int .i64 q) := (HM1.out.reg kb hkb).trans (by rw [← hq])))
  clear c5 x2 rb x0 hol hsl HX
  have hsl := HM1.out.blk.lt
  have hol := HX1.out.lt
  obtain ⟨rp, HRP⟩ : ∃ rp, Hid (rblame S.R q = rp) := ⟨_, hide2 rfl⟩
  rw [HRP.out] at HD
  generalize (S.R.usable q).1 = u at *
  generalize (S.R.usable q).2 = er at *
  go_upto_region 36 with (fail)
  go_cut [8] from 9 (fun s w' => ∃ pb v, s = .pointer (some ⟨pb, 0, none⟩) ∧ RptAt w1 rp pb v w')
  case first =>
    have mk5 := World.new_ne w1 ⟨F.sb, 5, none⟩ k5
    have mk2 := World.new_ne w1 ⟨w.heap.size, 2, none⟩ k2
    have mkr := World.new_ne w1 ⟨F.sb, 6 + kb, none⟩ kr
    go_region_held3 (fun w' => w'.cell? ⟨F.sb, 5, none⟩ = some (.pointer (some ⟨F.ph, 0, none⟩)) ∧ w'.cell? ⟨w.heap.size, 2, none⟩ = some (.int .i64 (kb : Int)) ∧ w'.cell? ⟨F.sb, 6 + kb, none⟩ = some (.int .i64 q)) (go_keep)
      (first
        | (go_at_call 37; refine (HM1.out.blames (w' := w1.drew) q hrb.2 ((Below.refl _ _).drew)).mono ?_; rw [HRP.out]; rintro e1 w3 ⟨v, rfl, hn⟩; obtain ⟨na, ncap, hv, -, -, -⟩ := row_open hn.row; subst hv; have HB1 : Hid (Below w1.heap.size w1 w3) := ⟨hn.below.os, hn.below.tape, hn.below.output, hn.below.size, hn.below.block⟩; have HNR : Hid (NearRel w1 rp.near (.slice na rp.near.length ncap) w3) := ⟨HB1.out, hn.row, hn.vlo⟩; have k51 : w3.cell? ⟨F.sb, 5, none⟩ = some (.pointer (some ⟨F.ph, 0, none⟩)) := (HB1.out.cell (p := ⟨F.sb, 5, none⟩) hsl).trans k5; have nk5 := World.new_ne w3 ⟨F.sb, 5, none⟩ k51; have k21 : w3.cell? ⟨w.heap.size, 2, none⟩ = some (.int .i64 (kb : Int)) := (HB1.out.cell (p := ⟨w.heap.size, 2, none⟩) hol).trans k2; have nk2 := World.new_ne w3 ⟨w.heap.size, 2, none⟩ k21; have kr1 : w3.cell? ⟨F.sb, 6 + kb, none⟩ = some (.int .i64 q) := (HB1.out.cell (p := ⟨F.sb, 6 + kb, none⟩) hsl).trans kr; have nkr := World.new_ne w3 ⟨F.sb, 6 + kb, none⟩ kr1; unfold rptV rptCells; clear hn)
        | (go_at_call 37; refine (HM1.out.blames (w' := (w1.alloc (.cells #[.int .i64 0, .int .i64 0, .int .i64 0, .int .i64 0, .int .i64 0, .int .i64 0, .int .i64 0, .int .i64 0, .int .i64 0, .slice none 0 0] 26)).drew) q hrb.2 (((Below.refl _ _).alloc (Nat.le_refl _) _).drew)).mono ?_; rw [HRP.out]; rintro e1 w3 ⟨v, rfl, hn⟩; obtain ⟨na, ncap, hv, -, -, -⟩ := row_open hn.row; subst hv; have hB2 : Below (w1.heap.size + 1) (w1.alloc (.cells (rptCells (Rpt.only 0) (.slice none 0 0)).toArray 26)) w3 := ⟨hn.below.os, hn.below.tape, hn.below.output, by have := hn.below.size; simpa using this, fun b hb => hn.below.block b (by simpa using hb)⟩; have HB1 : Hid (Below w1.heap.size w1 w3) := ((Below.refl _ _).alloc (Nat.le_refl _) _).trans (hB2.mono (by omega)); have HRW := hide2 hn.row; have HVL : Hid (∀ g, (Value.slice na rp.near.length ncap).ownBlock = some g → w1.heap.size + 1 ≤ g) := (fun g hg => (by have := hn.vlo g hg; simpa using this)); have HRZ : Hid (Blk w3 w1.heap.size 26 (rptCells (Rpt.only 0) (.slice none 0 0))) := (Blk.alloc w1 26 (rptCells (Rpt.only 0) (.slice none 0 0))).below hB2 (by omega); have rz0 := HRZ.out.cell (j := 0) rfl; have rzf0 := HRZ.out.frozen 0; have rz1 := HRZ.out.cell (j := 1) rfl; have rzf1 := HRZ.out.frozen 1; have rz2 := HRZ.out.cell (j := 2) rfl; have rzf2 := HRZ.out.frozen 2; have rz3 := HRZ.out.cell (j := 3) rfl; have rzf3 := HRZ.out.frozen 3; have rz4 := HRZ.out.cell (j := 4) rfl; have rzf4 := HRZ.out.frozen 4; have rz5 := HRZ.out.cell (j := 5) rfl; have rzf5 := HRZ.out.frozen 5; have rz6 := HRZ.out.cell (j := 6) rfl; have rzf6 := HRZ.out.frozen 6; have rz7 := HRZ.out.cell (j := 7) rfl; have rzf7 := HRZ.out.frozen 7; have rz8 := HRZ.out.cell (j := 8) rfl; have rzf8 := HRZ.out.frozen 8; have rz9 := HRZ.out.cell (j := 9) rfl; have rzf9 := HRZ.out.frozen 9; have hrzl := HRZ.out.lt; have k51 : w3.cell? ⟨F.sb, 5, none⟩ = some (.pointer (some ⟨F.ph, 0, none⟩)) := (HB1.out.cell (p := ⟨F.sb, 5, none⟩) hsl).trans k5; have nk5 := World.new_ne w3 ⟨F.sb, 5, none⟩ k51; have k21 : w3.cell? ⟨w.heap.size, 2, none⟩ = some (.int .i64 (kb : Int)) := (HB1.out.cell (p := ⟨w.heap.size, 2, none⟩) hol).trans k2; have nk2 := World.new_ne w3 ⟨w.heap.size, 2, none⟩ k21; have kr1 : w3.cell? ⟨F.sb, 6 + kb, none⟩ = some (.int .i64 q) := (HB1.out.cell (p := ⟨F.sb, 6 + kb, none⟩) hsl).trans kr; have nkr := World.new_ne w3 ⟨F.sb, 6 + kb, none⟩ kr1; unfold rptV rptCells; clear hn hB2))
    · go_wp2
      go_meet
      case rel => exact ⟨_, _, rfl, RptAt.behind HNR.out⟩
    · go_wp2
      go_meet
      case rel => exact ⟨_, _, rfl, RptAt.ahead HRZ.out HB1.out HRW.out HVL.out⟩
  case rest =>
    obtain ⟨pb, vr, rfl, hA⟩ := hcut
    have HR := hide2 (hA.ready HM1.out)
    have HM2 := hide2 (HM1.out.under hA.near.below)
    have HX2 := hide2 (HX1.out.below hA.near.below hol)
    obtain ⟨na, ncap, hv, -, -, -⟩ := row_open hA.near.row
    subst hv
    clear hA HM1 HX1 k5 k2 kr
    generalize wc = w5 at *
    have r0 := HR.out.blk.cell (j := 0) rfl
    have r1 := HR.out.blk.cell (j := 1) rfl
    have r2 := HR.out.blk.cell (j := 2) rfl
    have r3 := HR.out.blk.cell (j := 3) rfl
    have r4 := HR.out.blk.cell (j := 4) rfl
    have r5 := HR.out.blk.cell (j := 5) rfl
    have r6 := HR.out.blk.cell (j := 6) rfl
    have r7 := HR.out.blk.cell (j := 7) rfl
    have r8 := HR.out.blk.cell (j := 8) rfl
    have r9 := HR.out.blk.cell (j := 9) rfl
    go_upto_region 38 with (go_at_call 38; refine (HM2.out.faulting HR.out er).mono ?_; rintro e4 w6 ⟨rfl, ⟨vn6, hm6⟩, hk6⟩; have HM6 := hide2 hm6; have HX6 := hide2 (HX2.out.kept hk6 hxsb); clear hm6 hk6)
    clear r0 r1 r2 r3 r4 r5 r6 r7 r8 r9 HR HM2 HX2
    have x1 := HX6.out.cell (j := 1) rfl
    have ra := HM6.out.reg ka hka
    have raf := HM6.out.blk.frozen (6 + ka)
    go_region
    all_goals go_end0
    all_goals exact ⟨rfl, HM6.out.last ka hka u (by omega) (by omega) ((Below.refl _ _).drew) HD.out⟩
end Go.Proofs.YtjikemhmnkckcabGreat
