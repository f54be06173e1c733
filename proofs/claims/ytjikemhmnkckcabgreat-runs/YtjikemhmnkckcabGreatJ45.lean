import Derived.Test.YtjikemhmnkckcabGreatJ43
import Derived.Test.YtjikemhmnkckcabGreatJ44
import Derived.Test.YtjikemhmnkckcabGreatJ39
/- The program's machine: a byte is put out. -/
namespace Go.Proofs.YtjikemhmnkckcabGreat
open Go.RowKit
attribute [local go_sem ↓] Go.wp_at_zero Go.wp_at_succ

def dOut (S : MS) (ka : Nat) : MS := S.says (S.out ++ bOne (rg S.r ka % 256))

theorem MRep.grown_cell {F : MFix} {wB w wx w2 : World} {G : GSt} {vo vn : Value} {S : MS} (h : MRep F wB w G vo vn S) (hx : Below w.heap.size w wx) (hgrow : wx.grownBy w2 vo.ownBlock) : w2.cell? ⟨F.mb, 14, none⟩ = some vo ∧ w2.frozen? ⟨F.mb, 14, none⟩ = false := by
  have hl := h.blk.lt
  have hs := hx.size
  have hb : Blk w2 F.mb 81 (mC F S vo vn) := (hgrow.block F.mb (by omega) (fun e => (h.ho _ e.symm).2.1 rfl)).trans ((hx.block F.mb hl).trans h.blk)
  refine ⟨?_, hb.frozen 14⟩
  obtain ⟨r0, r1, r2, r3, r4, r5, r6, r7, hr⟩ := eight h.r8
  unfold mC at hb
  rw [hr] at hb
  exact hb.cell (j := 14) rfl
set_option maxRecDepth 100000 in
set_option maxHeartbeats 3200000 in
theorem do_out (F : MFix) (wB w : World) (G : GSt) (vo vn : Value) (S : MS) (ka : Nat) (b c : Int) (h : MRep F wB w G vo vn S) (hka : ka < 8) (ho : S.out.size ≤ 1048576) :
    Calls Tryz.prog 56 #[.pointer (some ⟨F.mb, 0, none⟩), .agg #[.int .i64 9, .int .i64 (ka : Int), .int .i64 b, .int .i64 c]] w fun e w' => e = .returned (.tuple #[]) ∧ ∃ G' vo' vn', MRep F wB w' G' vo' vn' (dOut S ka) := by
  obtain ⟨i0, hi0, hz0, hz1, hz2⟩ := info_parts info_byte
  obtain ⟨wa, hwa⟩ : ∃ wa, wa = w.alloc (.cells #[.int .i64 9, .int .i64 (ka : Int), .int .i64 b, .int .i64 c] 60) := ⟨_, rfl⟩
  have hbl : Below w.heap.size w wa := by rw [hwa]; exact (Below.refl _ _).alloc (Nat.le_refl _) _
  have HX : Hid (Blk wa w.heap.size 60 [.int .i64 9, .int .i64 (ka : Int), .int .i64 b, .int .i64 c]) := by show Blk _ _ _ _; rw [hwa]; exact Blk.alloc _ _ _
  have HM := hide2 (h.under hbl)
  have hkI : (ka : Int) < 8 := by omega
  have x0 := HX.out.cell (j := 0) rfl
  have x1 := HX.out.cell (j := 1) rfl
  have c14 := HM.out.c14
  have f14 := HM.out.blk.frozen 14
  have ra := m_reg HM.out.blk HM.out.r8 ka hka
  have hmb := HM.out.blk.lt
  generalize hq : rg S.r ka = q at *
  clear h hbl
  go_enter Tryz.func56, Tryz.ntmps56
  go_upto_region 1 with (fail)
  rw [← hwa]
  clear hwa
  go_upto_region 17 with (fail)
  have HR : Hid (wa.drew.ownsRow 0 5 1 vo S.out.size (bytesV S.out)) := row_below HM.out.out ((Below.refl _ _).drew) (own_lt HM.out.out)
  have hbo : vo.ownBlock ≠ some F.mb := fun e => (HM.out.ho _ e).2.1 rfl
  go_region_law (refine step_append_lies _ rfl _ _ _ rfl 0 5 i0 _ 1 1 Tryz.underlying77 hi0 hz0 hz1 hz2 rfl (by omega) vo S.out.size (bytesV S.out) rfl (HR.out.alloc _) ⟨wa.heap.size, 0, none⟩ 1 1 [.int .u8 (q % 256)] rfl rfl (World.news_of_block (cs := #[.int .u8 (q % 256)]) (t := 5) (fr := (0, 0)) (heap_alloc_new wa.drew _)) (by simp [Value.oneCell']) (by omega) (by simp [maxLen]; omega) (by omega) (by simp) (wa.heap.size + 1) (by simp) ?_; intro gg cap2 w2 hown hgrow hat hlt2; obtain ⟨g14, h14⟩ := HM.out.grown_cell (((Below.refl wa.heap.size wa).alloc (Nat.le_refl _) _).drew) hgrow)
  all_goals go_end0
  all_goals (
    have hN : S.out.size + 1 = (S.out ++ bOne (q % 256)).size := by simp [ByteArray.size_append, bOne_size]
    have hL : bytesV S.out ++ [Value.int .u8 (q % 256)] = bytesV (S.out ++ bOne (q % 256)) := by rw [bytesV_append, bytesV_one (by omega) (by omega)]
    refine ⟨rfl, G, .slice (some ⟨gg, 0, none⟩) (S.out.size + 1) cap2, vn, ?_⟩
    unfold dOut
    rw [hq]
    exact HM.out.grows (((Below.refl wa.heap.size wa).alloc (Nat.le_refl _) _).drew) hgrow hown hN hL (fun g hg => by simp only [Value.ownBlock, Option.some.injEq] at hg; subst hg; rcases hat with e | e; exact Or.inl e; exact Or.inr (by omega)))
end Go.Proofs.YtjikemhmnkckcabGreat
/- The program's machine: any instruction of a valid program; a step. -/
namespace Go.Proofs.YtjikemhmnkckcabGreat
open Go.RowKit
attribute [local go_sem ↓] Go.wp_at_zero Go.wp_at_succ

def mDo (inp : ByteArray) (ds : List Int) (S : MS) (x : Ins) : MS :=
  if x.op = 0 then (S.ends 2).exits (rg S.r x.a.toNat)
  else if x.op = 1 then S.reg x.a.toNat (256 * x.b + x.c)
  else if x.op = 6 then S.goes x.a.toNat
  else if x.op = 7 then dZero S x.a.toNat x.b.toNat
  else if x.op = 8 then (S.hears inp).reg x.a.toNat (hearV inp S.heard)
  else if x.op = 9 then dOut S x.a.toNat
  else if x.op = 10 then S.reg x.a.toNat (16 + 256 * x.b + x.c)
  else if x.op = 11 then dMalloc ds S x.a.toNat x.b.toNat
  else if x.op = 12 then dFree S x.a.toNat
  else if x.op = 13 then dRealloc ds S x.a.toNat x.b.toNat x.c.toNat
  else if x.op = 14 then dUsable S x.a.toNat x.b.toNat
  else if x.op = 15 then dLoad S x.a.toNat x.b.toNat x.c 8
  else if x.op = 16 then dLoad S x.a.toNat x.b.toNat x.c 1
  else if x.op = 17 then dStore S x.a.toNat x.b.toNat x.c 8
  else if x.op = 18 then dStore S x.a.toNat x.b.toNat x.c 1
  else if x.op = 19 then dMove S x.a.toNat x.b.toNat x.c.toNat
  else S.reg x.a.toNat (sumV x.op (rg S.r x.b.toNat) (rg S.r x.c.toNat))

theorem ite_of {A : Type} {P : A → Prop} {c : Prop} [Decidable c] {a b : A} (h1 : c → P a) (h2 : ¬ c → P b) : P (if c then a else b) := by
  by_cases h : c
  · rw [if_pos h]; exact h1 h
  · rw [if_neg h]; exact h2 h
theorem mDo_pc (inp : ByteArray) (ds : List Int) (S : MS) (x : Ins) : (mDo inp ds S x).pc = S.pc := by
  unfold mDo dZero dOut dMalloc dFree dRealloc dUsable dLoad dStore dMove
  repeat' (refine ite_of (P := fun S' : MS => S'.pc = S.pc) (fun _ => ?_) (fun _ => ?_))
  all_goals rfl
theorem mDo_steps (inp : ByteArray) (ds : List Int) (S : MS) (x : Ins) : (mDo inp ds S x).steps = S.steps := by
  unfold mDo dZero dOut dMalloc dFree dRealloc dUsable dLoad dStore dMove
  repeat' (refine ite_of (P := fun S' : MS => S'.steps = S.steps) (fun _ => ?_) (fun _ => ?_))
  all_goals rfl
theorem may_op {x : Ins} {n : Int} (h : x.may n = true) : ¬ (x.op < 0 ∨ 19 < x.op) := fun e => by
  unfold Ins.may mayB at h
  rw [opKinds_none e] at h
  cases h
theorem nat_of {a : Int} (h : 0 ≤ a) : ∃ k : Nat, a = (k : Int) := ⟨a.toNat, by omega⟩

set_option maxRecDepth 100000 in
set_option maxHeartbeats 3200000 in
theorem do_any (F : MFix) (wB w : World) (G : GSt) (vo vn : Value) (S : MS) (x : Ins) (n : Int) (h : MRep F wB w G vo vn S) (hx : x.may n = true) (hi : (F.inp.size : Int) ≤ 9223372036854775807) (ho : S.out.size ≤ 1048576) :
    Calls Tryz.prog 56 #[.pointer (some ⟨F.mb, 0, none⟩), .agg #[.int .i64 x.op, .int .i64 x.a, .int .i64 x.b, .int .i64 x.c]] w fun e w' => e = .returned (.tuple #[]) ∧ ∃ G' vo' vn', MRep F wB w' G' vo' vn' (mDo F.inp F.ds S x) := by
  have hop := op_cases (may_op hx)
  obtain ⟨o, a, b, c⟩ := x
  simp only at hop
  rcases hop with rfl | rfl | rfl | rfl | rfl | rfl | rfl | rfl | rfl | rfl | rfl | rfl | rfl | rfl | rfl | rfl | rfl | rfl | rfl | rfl
  all_goals simp [Ins.may, mayB, opKinds, kindB, withinB] at hx
  all_goals obtain ⟨ka, rfl⟩ := nat_of (a := a) (by omega)
  all_goals simp only [mDo, Int.toNat_natCast]
  all_goals simp
  · exact do_halt F wB w G vo vn S ka b c h (by omega)
  · exact do_set F wB w G vo vn S ka b c h (by omega) (by omega) (by omega) (by omega) (by omega)
  all_goals try obtain ⟨kb, rfl⟩ := nat_of (a := b) (by omega)
  · obtain ⟨kc, rfl⟩ := nat_of (a := c) (by omega)
    exact do_add F wB w G vo vn S ka kb kc h (by omega) (by omega) (by omega)
  · obtain ⟨kc, rfl⟩ := nat_of (a := c) (by omega)
    exact do_sub F wB w G vo vn S ka kb kc h (by omega) (by omega) (by omega)
  · obtain ⟨kc, rfl⟩ := nat_of (a := c) (by omega)
    exact do_less F wB w G vo vn S ka kb kc h (by omega) (by omega) (by omega)
  · obtain ⟨kc, rfl⟩ := nat_of (a := c) (by omega)
    exact do_same F wB w G vo vn S ka kb kc h (by omega) (by omega) (by omega)
  · exact do_jump F wB w G vo vn S ka _ c h
  · exact do_zero F wB w G vo vn S ka kb c h (by omega)
  · exact do_in F wB w G vo vn S ka _ c h (by omega) hi
  · exact do_out F wB w G vo vn S ka _ c h (by omega) ho
  · exact do_base F wB w G vo vn S ka _ c h (by omega) (by omega) (by omega) (by omega) (by omega)
  · exact do_malloc F wB w G vo vn S ka kb c h (by omega) (by omega)
  · exact do_free F wB w G vo vn S ka _ c h (by omega)
  · obtain ⟨kc, rfl⟩ := nat_of (a := c) (by omega)
    exact do_realloc F wB w G vo vn S ka kb kc h (by omega) (by omega) (by omega)
  · exact do_usable F wB w G vo vn S ka kb c h (by omega) (by omega)
  · exact do_load F wB w G vo vn S ka kb c h (by omega) (by omega)
  · exact do_byte F wB w G vo vn S ka kb c h (by omega) (by omega)
  · exact do_store F wB w G vo vn S ka kb c h (by omega) (by omega)
  · exact do_put F wB w G vo vn S ka kb c h (by omega) (by omega)
  · obtain ⟨kc, rfl⟩ := nat_of (a := c) (by omega)
    exact do_move F wB w G vo vn S ka kb kc h (by omega) (by omega) (by omega)

/-- A step. -/
def mStep (inp : ByteArray) (ds : List Int) (code : List Ins) (S : MS) : MS :=
  if (mDo inp ds (S.stepped.goes (S.pc + 1)) (code.getD S.pc Ins.no)).en = 0 then (mDo inp ds (S.stepped.goes (S.pc + 1)) (code.getD S.pc Ins.no)).stands (mDo inp ds (S.stepped.goes (S.pc + 1)) (code.getD S.pc Ins.no)).next
  else mDo inp ds (S.stepped.goes (S.pc + 1)) (code.getD S.pc Ins.no)

set_option maxRecDepth 100000 in
set_option maxHeartbeats 3200000 in
theorem mstep_any (F : MFix) (wB w : World) (G : GSt) (vo vn : Value) (S : MS) (n : Int) (h : MRep F wB w G vo vn S) (hpc : S.pc < F.code.length) (hx : (F.code.getD S.pc Ins.no).may n = true) (hi : (F.inp.size : Int) ≤ 9223372036854775807) (ho : S.out.size ≤ 1048576) (hs : S.steps ≤ 1048576) (hl : F.code.length ≤ 1048576) :
    Calls Tryz.prog 29 #[.pointer (some ⟨F.mb, 0, none⟩)] w fun e w' => e = .returned (.tuple #[]) ∧ ∃ G' vo' vn', MRep F wB w' G' vo' vn' (mStep F.inp F.ds F.code S) := by
  have HD : Hid (mStep F.inp F.ds F.code S = if (mDo F.inp F.ds (S.stepped.goes (S.pc + 1)) (F.code.getD S.pc Ins.no)).en = 0 then (mDo F.inp F.ds (S.stepped.goes (S.pc + 1)) (F.code.getD S.pc Ins.no)).stands (mDo F.inp F.ds (S.stepped.goes (S.pc + 1)) (F.code.getD S.pc Ins.no)).next else mDo F.inp F.ds (S.stepped.goes (S.pc + 1)) (F.code.getD S.pc Ins.no)) := rfl
  generalize mStep F.inp F.ds F.code S = S' at *
  have HM := hide2 h
  obtain ⟨g, off, ea, hg, hc⟩ := h.codeR.cells (by omega)
  obtain ⟨d0, d1, d2, d3⟩ := hc S.pc hpc
  generalize F.code.getD S.pc Ins.no = x at *
  obtain ⟨xo, xa, xb, xc⟩ := x
  simp only at d0 d1 d2 d3
  have HD0 := hide2 d0
  have HD1 := hide2 d1
  have HD2 := hide2 d2
  have HD3 := hide2 d3
  have hgm : g ≠ F.mb := by have := h.hm; omega
  have hgl : g < w.heap.size := by have := h.below.size; omega
  have e0 : w.cell? ⟨g, off + S.pc * 4, none⟩ = some (.int .i64 xo) := (h.below.cell (p := ⟨g, off + S.pc * 4, none⟩) hg).trans d0
  have e1 : w.cell? ⟨g, off + S.pc * 4 + 1, none⟩ = some (.int .i64 xa) := (h.below.cell (p := ⟨g, off + S.pc * 4 + 1, none⟩) hg).trans d1
  have e2 : w.cell? ⟨g, off + S.pc * 4 + 2, none⟩ = some (.int .i64 xb) := (h.below.cell (p := ⟨g, off + S.pc * 4 + 2, none⟩) hg).trans d2
  have e3 : w.cell? ⟨g, off + S.pc * 4 + 3, none⟩ = some (.int .i64 xc) := (h.below.cell (p := ⟨g, off + S.pc * 4 + 3, none⟩) hg).trans d3
  have c15 := HM.out.c15
  have c16 := HM.out.c16
  have c17 := HM.out.c17
  have f17 := HM.out.blk.frozen 17
  have f16 := HM.out.blk.frozen 16
  have hpI : (S.pc : Int) < (F.code.length : Int) := by omega
  clear hc d0 d1 d2 d3 h
  go_enter Tryz.func29, Tryz.ntmps29
  go_upto_region 2 with (fail)
  obtain ⟨wb, hwb⟩ : ∃ wb, wb = (w.setCell ⟨F.mb, 17, none⟩ (.int .i64 ((S.steps : Int) + 1))).setCell ⟨F.mb, 16, none⟩ (.int .i64 ((S.pc : Int) + 1)) := ⟨_, rfl⟩
  rw [← hwb]
  have HM1 : Hid (MRep F wB wb G vo vn (S.stepped.goes (S.pc + 1))) := by
    show MRep _ _ _ _ _ _ _
    have := (HM.out.setSteps).setNext (S.pc + 1)
    rw [hwb]
    exact this
  have hk : Kept w wb (· = F.mb) := by rw [hwb]; exact ((Kept.refl w (· = F.mb)).setCell _ _ rfl).setCell _ _ rfl
  replace e0 := (World.cell?_of_block (a := ⟨g, off + S.pc * 4, none⟩) (hk.block g hgl hgm)).trans e0
  replace e1 := (World.cell?_of_block (a := ⟨g, off + S.pc * 4 + 1, none⟩) (hk.block g hgl hgm)).trans e1
  replace e2 := (World.cell?_of_block (a := ⟨g, off + S.pc * 4 + 2, none⟩) (hk.block g hgl hgm)).trans e2
  replace e3 := (World.cell?_of_block (a := ⟨g, off + S.pc * 4 + 3, none⟩) (hk.block g hgl hgm)).trans e3
  clear hk c15 c16 c17 f17 f16 hwb HM
  have c15 : wb.cell? ⟨F.mb, 15, none⟩ = some (.int .i64 S.pc) := HM1.out.c15
  have c1 : wb.cell? ⟨F.mb, 1, none⟩ = some (.slice (some ⟨g, off, none⟩) F.code.length F.icap) := by rw [← ea]; exact HM1.out.c1
  have hp1 : (mDo F.inp F.ds (S.stepped.goes (S.pc + 1)) ⟨xo, xa, xb, xc⟩).pc = S.pc := mDo_pc ..
  generalize hS1 : mDo F.inp F.ds (S.stepped.goes (S.pc + 1)) ⟨xo, xa, xb, xc⟩ = S1 at *
  generalize S.pc = pc at *
  go_region_held3 (fun w' => w'.cell? ⟨F.mb, 1, none⟩ = some (.slice (some ⟨g, off, none⟩) F.code.length F.icap) ∧ w'.cell? ⟨F.mb, 15, none⟩ = some (.int .i64 pc) ∧ w'.cell? ⟨g, off + pc * 4, none⟩ = some (.int .i64 xo) ∧ w'.cell? ⟨g, off + pc * 4 + 1, none⟩ = some (.int .i64 xa) ∧ w'.cell? ⟨g, off + pc * 4 + 2, none⟩ = some (.int .i64 xb) ∧ w'.cell? ⟨g, off + pc * 4 + 3, none⟩ = some (.int .i64 xc)) (go_keep)
    (first | (go_at_call 56; refine (do_any F wB wb.drew G vo vn _ ⟨xo, xa, xb, xc⟩ n (HM1.out.under ((Below.refl _ _).drew)) hx hi ho).mono ?_; rintro e4 w2 ⟨rfl, G2, vo2, vn2, hm2⟩; rw [hS1] at hm2; have HM2 := hide2 hm2; clear hm2; have k1 : w2.cell? ⟨F.mb, 1, none⟩ = some (.slice (some ⟨g, off, none⟩) F.code.length F.icap) := (by rw [← ea]; exact HM2.out.c1); have k15 : w2.cell? ⟨F.mb, 15, none⟩ = some (.int .i64 pc) := (by rw [← hp1]; exact HM2.out.c15); have k0 := (HM2.out.below.cell (p := ⟨g, off + pc * 4, none⟩) hg).trans HD0.out; have k2 := (HM2.out.below.cell (p := ⟨g, off + pc * 4 + 1, none⟩) hg).trans HD1.out; have k3 := (HM2.out.below.cell (p := ⟨g, off + pc * 4 + 2, none⟩) hg).trans HD2.out; have k4 := (HM2.out.below.cell (p := ⟨g, off + pc * 4 + 3, none⟩) hg).trans HD3.out))
  clear c1 c15 e0 e1 e2 e3 k0 k1 k2 k3 k4
  have c18 := HM2.out.c18
  have c16 := HM2.out.c16
  have f15 := HM2.out.blk.frozen 15
  by_cases he : S1.en = 0
  · rw [if_pos he] at HD
    rw [he] at c18
    clear he
    go_wp2
    go_end0
    exact ⟨rfl, G2, vo2, vn2, by rw [HD.out]; exact HM2.out.setPc S1.next⟩
  · rw [if_neg he] at HD
    have hne : (S1.en == 0) = false := by rw [beq_eq_false_iff_ne]; exact he
    clear he
    go_wp2
    go_end0
    exact ⟨rfl, G2, vo2, vn2, by rw [HD.out]; exact HM2.out⟩
end Go.Proofs.YtjikemhmnkckcabGreat
/- The program's machine: a run without fuel. -/
namespace Go.Proofs.YtjikemhmnkckcabGreat
open Go.RowKit
attribute [local go_sem ↓] Go.wp_at_zero Go.wp_at_succ

/-- Where the machine says how it ended. -/
def endOf (w : World) (mb : Nat) : Int := match w.cell? ⟨mb, 18, none⟩ with
  | some (.int _ k) => k
  | _ => 0

set_option maxRecDepth 100000 in
set_option maxHeartbeats 3200000 in
theorem run_nofuel (mb : Nat) (ph : Value) (ia : Option Addr) (n icap : Nat) (r0 r1 r2 r3 r4 r5 r6 r7 : Int) (inp : ByteArray) (heard : Int) (vd : Value) (drawn : Int) (vo : Value) (ex : Int) (rep : List Value) (w : World) (hn : 0 < n)
    (h : Blk w mb 81 (mCells ph (.slice ia n icap) [r0, r1, r2, r3, r4, r5, r6, r7] inp heard vd drawn vo 0 0 0 0 ex rep)) :
    Calls Tryz.prog 15 #[.pointer (some ⟨mb, 0, none⟩), .int .i64 0] w fun e w' => e = .returned (.tuple #[]) ∧ Blk w' mb 81 (mCells ph (.slice ia n icap) [r0, r1, r2, r3, r4, r5, r6, r7] inp heard vd drawn vo 0 0 0 3 ex rep) ∧ Kept w w' (· = mb) := by
  have hnI : (0 : Int) < (n : Int) := by omega
  have H := hide2 h
  clear h
  go_enter Tryz.func15, Tryz.ntmps15
  go_wp2
  go_loopw [] (fun wr => ∃ en : Int, (en = 0 ∨ en = 3) ∧ Hid (Blk wr mb 81 (mCells ph (.slice ia n icap) [r0, r1, r2, r3, r4, r5, r6, r7] inp heard vd drawn vo 0 0 0 en ex rep)) ∧ Hid (Kept w wr (· = mb))) (fun wr => if endOf wr mb = 0 then 1 else 0)
  case atStart => exact ⟨0, .inl rfl, H, Kept.refl _ _⟩
  case round =>
    obtain ⟨en, hen, HR, HK⟩ := hrel
    have HE : Hid (endOf wr mb = en) := by show _ = _; unfold endOf; rw [HR.out.cell (j := 18) (v := .int .i64 en) rfl]
    have c1 := HR.out.cell (j := 1) rfl
    have c15 := HR.out.cell (j := 15) rfl
    have c17 := HR.out.cell (j := 17) rfl
    have c18 := HR.out.cell (j := 18) rfl
    have f18 := HR.out.frozen 18
    rcases hen with rfl | rfl
    · go_wp2
      go_quiet (fail)
      go_wp2
      go_roundw
      case rel => exact ⟨3, .inr rfl, (show Blk (wr.drewN _) mb _ _ from HR.out).setCell 18 _, (HK.out.drewN _).setCell _ _ rfl⟩
      case measure =>
        rw [HE.out]
        have : ∀ q, endOf ((wr.drewN q).setCell ⟨mb, 18, none⟩ (.int .i64 3)) mb = 3 := fun q => by
          unfold endOf
          rw [((show Blk (wr.drewN q) mb _ _ from HR.out).setCell 18 (.int .i64 3)).cell (j := 18) (v := .int .i64 3) rfl]
        simp [this]
    · go_wp2
      go_end0
      exact ⟨rfl, HR.out, HK.out⟩
end Go.Proofs.YtjikemhmnkckcabGreat
/- The program's machine: a run (written by genrun.py). -/
namespace Go.Proofs.YtjikemhmnkckcabGreat
open Go.RowKit
attribute [local go_sem ↓] Go.wp_at_zero Go.wp_at_succ

/-- A run, as far as k steps. -/
def mRun (inp : ByteArray) (ds : List Int) (code : List Ins) (f : Int) : Nat → MS → MS
  | 0, S => S
  | k + 1, S => if S.en ≠ 0 then S else if code.length ≤ S.pc then S.ends 2 else if f ≤ S.steps then S.ends 3 else mRun inp ds code f k (mStep inp ds code S)
theorem mRun_en {inp : ByteArray} {ds : List Int} {code : List Ins} {f : Int} {S : MS} (h : S.en ≠ 0) (k : Nat) : mRun inp ds code f k S = S := by
  cases k with
  | zero => rfl
  | succ k => show (if S.en ≠ 0 then S else _) = S; rw [if_pos h]
theorem mRun_over {inp : ByteArray} {ds : List Int} {code : List Ins} {f : Int} {S : MS} (h : S.en = 0) (hp : code.length ≤ S.pc) {k : Nat} (hk : 0 < k) : mRun inp ds code f k S = S.ends 2 := by
  cases k with
  | zero => omega
  | succ k => show (if S.en ≠ 0 then S else if _ then _ else _) = _; rw [if_neg (by simpa using h), if_pos hp]
theorem mRun_out {inp : ByteArray} {ds : List Int} {code : List Ins} {f : Int} {S : MS} (h : S.en = 0) (hp : ¬ code.length ≤ S.pc) (hf : f ≤ S.steps) {k : Nat} (hk : 0 < k) : mRun inp ds code f k S = S.ends 3 := by
  cases k with
  | zero => omega
  | succ k => show (if S.en ≠ 0 then S else if _ then _ else if _ then _ else _) = _; rw [if_neg (by simpa using h), if_neg hp, if_pos hf]
theorem mRun_step {inp : ByteArray} {ds : List Int} {code : List Ins} {f : Int} {S : MS} (h : S.en = 0) (hp : ¬ code.length ≤ S.pc) (hf : ¬ f ≤ S.steps) (k : Nat) : mRun inp ds code f (k + 1) S = mRun inp ds code f k (mStep inp ds code S) := by
  show (if S.en ≠ 0 then S else if _ then _ else if _ then _ else _) = _; rw [if_neg (by simpa using h), if_neg hp, if_neg hf]
theorem mDo_out (inp : ByteArray) (ds : List Int) (S : MS) (x : Ins) : (mDo inp ds S x).out.size ≤ S.out.size + 1 := by
  unfold mDo dZero dOut dMalloc dFree dRealloc dUsable dLoad dStore dMove
  repeat' (refine ite_of (P := fun S' : MS => S'.out.size ≤ S.out.size + 1) (fun _ => ?_) (fun _ => ?_))
  all_goals first | exact Nat.le_succ _ | (show (S.out ++ bOne _).size ≤ _; rw [ByteArray.size_append, bOne_size]; exact Nat.le_refl _)
theorem mStep_steps (inp : ByteArray) (ds : List Int) (code : List Ins) (S : MS) : (mStep inp ds code S).steps = S.steps + 1 := by
  unfold mStep
  refine ite_of (P := fun S' : MS => S'.steps = S.steps + 1) (fun _ => ?_) (fun _ => ?_)
  · exact (mDo_steps inp ds (S.stepped.goes (S.pc + 1)) _)
  · exact (mDo_steps inp ds (S.stepped.goes (S.pc + 1)) _)
theorem mStep_out (inp : ByteArray) (ds : List Int) (code : List Ins) (S : MS) : (mStep inp ds code S).out.size ≤ S.out.size + 1 := by
  unfold mStep
  refine ite_of (P := fun S' : MS => S'.out.size ≤ S.out.size + 1) (fun _ => ?_) (fun _ => ?_)
  · exact (mDo_out inp ds (S.stepped.goes (S.pc + 1)) _)
  · exact (mDo_out inp ds (S.stepped.goes (S.pc + 1)) _)
/-- How many steps the machine has taken. -/
def stepsOf (w : World) (mb : Nat) : Nat := match w.cell? ⟨mb, 17, none⟩ with
  | some (.int _ k) => k.toNat
  | _ => 0
theorem MRep.endOf {F : MFix} {wB w : World} {G : GSt} {vo vn : Value} {S : MS} (h : MRep F wB w G vo vn S) : endOf w F.mb = S.en := by unfold Go.Proofs.YtjikemhmnkckcabGreat.endOf; rw [h.c18]
theorem MRep.stepsOf {F : MFix} {wB w : World} {G : GSt} {vo vn : Value} {S : MS} (h : MRep F wB w G vo vn S) : stepsOf w F.mb = S.steps := by unfold Go.Proofs.YtjikemhmnkckcabGreat.stepsOf; rw [h.c17]; simp
/-- A run under way that comes to Sf. -/
structure RunIn (F : MFix) (wB w : World) (f : Int) (Sf : MS) (G : GSt) (vo vn : Value) (S : MS) (k : Nat) : Prop where
  rep : MRep F wB w G vo vn S
  s1 : S.steps ≤ 4096
  o1 : S.out.size ≤ S.steps
  k1 : 4097 ≤ S.steps + k
  comes : mRun F.inp F.ds F.code f k S = Sf
def mFuel (fuel : Int) : Int := if 4096 < fuel then 4096 else fuel

set_option maxRecDepth 100000 in
set_option maxHeartbeats 3200000 in
theorem run_any (F : MFix) (wB w : World) (G : GSt) (vo vn : Value) (S : MS) (fuel : Int) (h : MRep F wB w G vo vn S) (hcode : ∀ i, i < F.code.length → ∃ n, (F.code.getD i Ins.no).may n = true) (hi : (F.inp.size : Int) ≤ 9223372036854775807) (hl : F.code.length ≤ 1048576) (hs : S.steps = 0) (ho : S.out.size = 0) :
    Calls Tryz.prog 15 #[.pointer (some ⟨F.mb, 0, none⟩), .int .i64 fuel] w fun e w' => e = .returned (.tuple #[]) ∧ ∃ G' vo' vn', MRep F wB w' G' vo' vn' (mRun F.inp F.ds F.code (mFuel fuel) 4097 S) := by
  have H0 : Hid (∃ G vo vn S1 k, RunIn F wB w (mFuel fuel) (mRun F.inp F.ds F.code (mFuel fuel) 4097 S) G vo vn S1 k) := ⟨G, vo, vn, S, 4097, h, by omega, by omega, by omega, rfl⟩
  have HCODE := hide2 hcode
  generalize mRun F.inp F.ds F.code (mFuel fuel) 4097 S = Sf at *
  clear h hcode hs ho
  go_enter Tryz.func15, Tryz.ntmps15
  by_cases hf : 4096 < fuel
  · rw [show mFuel fuel = 4096 from if_pos hf] at H0
    go_wp2
    go_loopw [] (fun wr => Hid (∃ G vo vn S1 k, RunIn F wB wr 4096 Sf G vo vn S1 k)) (fun wr => if endOf wr F.mb = 0 then 1 + (4097 - stepsOf wr F.mb) else 0)
    case atStart => exact H0
    case round =>
      obtain ⟨G1, vo1, vn1, S1, k, hin⟩ := hrel.out
      have HIN := hide2 hin
      have HE := hide2 hin.rep.endOf
      have HS := hide2 hin.rep.stepsOf
      have c1 := hin.rep.c1
      have c15 := hin.rep.c15
      have c17 := hin.rep.c17
      have c18 := hin.rep.c18
      have f18 := hin.rep.blk.frozen 18
      have s1 := hin.s1
      have k1 := hin.k1
      clear hrel hin
      by_cases hen : S1.en = 0
      · have HEN := hide2 hen
        rw [hen] at c18 HE
        by_cases hp : F.code.length ≤ S1.pc
        · have hpI : (F.code.length : Int) ≤ (S1.pc : Int) := by omega
          have HP := hide2 hp
          clear hen hp
          go_wp2
          go_quiet (fail)
          go_wp2
          have HM2 := fun q => (HIN.out.rep.under (below_drewN (Below.refl wr.heap.size wr) q)).setEn 2
          go_roundw
          case rel => exact ⟨_, _, _, _, k, HM2 _, HIN.out.s1, HIN.out.o1, HIN.out.k1, by rw [mRun_en (by show (2 : Int) ≠ 0; omega), ← HIN.out.comes, mRun_over HEN.out HP.out (by omega)]⟩
          case measure =>
            rw [HE.out]
            have hh := fun q => (HM2 q).endOf
            simp [hh, MS.ends]; omega
        · have hpI : ¬ (F.code.length : Int) ≤ (S1.pc : Int) := by omega
          have HP := hide2 hp
          clear hen
          by_cases hst : 4096 ≤ (S1.steps : Int)
          · have HST := hide2 hst
            clear hp
            go_wp2
            go_quiet (fail)
            go_wp2
            have HM2 := fun q => (HIN.out.rep.under (below_drewN (Below.refl wr.heap.size wr) q)).setEn 3
            go_roundw
            case rel => exact ⟨_, _, _, _, k, HM2 _, HIN.out.s1, HIN.out.o1, HIN.out.k1, by rw [mRun_en (by show (3 : Int) ≠ 0; omega), ← HIN.out.comes, mRun_out HEN.out HP.out HST.out (by omega)]⟩
            case measure =>
              rw [HE.out]
              have hh := fun q => (HM2 q).endOf
              simp [hh, MS.ends]; omega
          · have HST := hide2 hst
            have hs2 : S1.steps < 4096 := by omega
            obtain ⟨nn, hmay⟩ := HCODE.out S1.pc (by omega)
            have HMAY := hide2 hmay
            have o1 := HIN.out.o1
            have hpl : S1.pc < F.code.length := by omega
            clear hp hmay
            go_wp2
            go_quiet (fail)
            go_wp2_with (go_at_call 29; refine (mstep_any F wB _ G1 vo1 vn1 S1 nn (HIN.out.rep.under (below_drewN (Below.refl wr.heap.size wr) _)) hpl HMAY.out hi (by omega) (by omega) hl).mono ?_; rintro e2 w2 ⟨rfl, G2, vo2, vn2, hm2⟩; have HM2 := hide2 hm2; clear hm2)
            go_roundw
            case rel =>
              obtain ⟨k', rfl⟩ : ∃ k', k = k' + 1 := ⟨k - 1, by omega⟩
              have hst1 := mStep_steps F.inp F.ds F.code S1
              have hot1 := mStep_out F.inp F.ds F.code S1
              exact ⟨_, _, _, _, k', HM2.out, by omega, by omega, by omega, by rw [← HIN.out.comes, mRun_step HEN.out HP.out (Int.not_le.2 HST.out)]⟩
            case measure =>
              rw [HE.out, HS.out, HM2.out.stepsOf, mStep_steps]
              split <;> simp <;> omega
      · have HEN := hide2 hen
        have hne : (S1.en == 0) = false := by rw [beq_eq_false_iff_ne]; exact hen
        clear hen
        go_wp2
        go_end0
        have hc := HIN.out.comes
        rw [mRun_en HEN.out] at hc
        exact ⟨rfl, G1, vo1, vn1, by rw [← hc]; exact HIN.out.rep⟩
  · rw [show mFuel fuel = fuel from if_neg hf] at H0
    go_wp2
    go_loopw [] (fun wr => Hid (∃ G vo vn S1 k, RunIn F wB wr fuel Sf G vo vn S1 k)) (fun wr => if endOf wr F.mb = 0 then 1 + (4097 - stepsOf wr F.mb) else 0)
    case atStart => exact H0
    case round =>
      obtain ⟨G1, vo1, vn1, S1, k, hin⟩ := hrel.out
      have HIN := hide2 hin
      have HE := hide2 hin.rep.endOf
      have HS := hide2 hin.rep.stepsOf
      have c1 := hin.rep.c1
      have c15 := hin.rep.c15
      have c17 := hin.rep.c17
      have c18 := hin.rep.c18
      have f18 := hin.rep.blk.frozen 18
      have s1 := hin.s1
      have k1 := hin.k1
      clear hrel hin
      by_cases hen : S1.en = 0
      · have HEN := hide2 hen
        rw [hen] at c18 HE
        by_cases hp : F.code.length ≤ S1.pc
        · have hpI : (F.code.length : Int) ≤ (S1.pc : Int) := by omega
          have HP := hide2 hp
          clear hen hp
          go_wp2
          go_quiet (fail)
          go_wp2
          have HM2 := fun q => (HIN.out.rep.under (below_drewN (Below.refl wr.heap.size wr) q)).setEn 2
          go_roundw
          case rel => exact ⟨_, _, _, _, k, HM2 _, HIN.out.s1, HIN.out.o1, HIN.out.k1, by rw [mRun_en (by show (2 : Int) ≠ 0; omega), ← HIN.out.comes, mRun_over HEN.out HP.out (by omega)]⟩
          case measure =>
            rw [HE.out]
            have hh := fun q => (HM2 q).endOf
            simp [hh, MS.ends]; omega
        · have hpI : ¬ (F.code.length : Int) ≤ (S1.pc : Int) := by omega
          have HP := hide2 hp
          clear hen
          by_cases hst : fuel ≤ (S1.steps : Int)
          · have HST := hide2 hst
            clear hp
            go_wp2
            go_quiet (fail)
            go_wp2
            have HM2 := fun q => (HIN.out.rep.under (below_drewN (Below.refl wr.heap.size wr) q)).setEn 3
            go_roundw
            case rel => exact ⟨_, _, _, _, k, HM2 _, HIN.out.s1, HIN.out.o1, HIN.out.k1, by rw [mRun_en (by show (3 : Int) ≠ 0; omega), ← HIN.out.comes, mRun_out HEN.out HP.out HST.out (by omega)]⟩
            case measure =>
              rw [HE.out]
              have hh := fun q => (HM2 q).endOf
              simp [hh, MS.ends]; omega
          · have HST := hide2 hst
            have hs2 : S1.steps < 4096 := by omega
            obtain ⟨nn, hmay⟩ := HCODE.out S1.pc (by omega)
            have HMAY := hide2 hmay
            have o1 := HIN.out.o1
            have hpl : S1.pc < F.code.length := by omega
            clear hp hmay
            go_wp2
            go_quiet (fail)
            go_wp2_with (go_at_call 29; refine (mstep_any F wB _ G1 vo1 vn1 S1 nn (HIN.out.rep.under (below_drewN (Below.refl wr.heap.size wr) _)) hpl HMAY.out hi (by omega) (by omega) hl).mono ?_; rintro e2 w2 ⟨rfl, G2, vo2, vn2, hm2⟩; have HM2 := hide2 hm2; clear hm2)
            go_roundw
            case rel =>
              obtain ⟨k', rfl⟩ : ∃ k', k = k' + 1 := ⟨k - 1, by omega⟩
              have hst1 := mStep_steps F.inp F.ds F.code S1
              have hot1 := mStep_out F.inp F.ds F.code S1
              exact ⟨_, _, _, _, k', HM2.out, by omega, by omega, by omega, by rw [← HIN.out.comes, mRun_step HEN.out HP.out (Int.not_le.2 HST.out)]⟩
            case measure =>
              rw [HE.out, HS.out, HM2.out.stepsOf, mStep_steps]
              split <;> simp <;> omega
      · have HEN := hide2 hen
        have hne : (S1.en == 0) = false := by rw [beq_eq_false_iff_ne]; exact hen
        clear hen
        go_wp2
        go_end0
        have hc := HIN.out.comes
        rw [mRun_en HEN.out] at hc
        exact ⟨rfl, G1, vo1, vn1, by rw [← hc]; exact HIN.out.rep⟩
end Go.Proofs.YtjikemhmnkckcabGreat
