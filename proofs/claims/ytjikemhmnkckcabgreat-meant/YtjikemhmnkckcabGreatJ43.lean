import Derived.Test.YtjikemhmnkckcabGreatJ42
namespace Go.Proofs.YtjikemhmnkckcabGreat
open Go.RowKit
structure MS where
 R : RSt
 r : List Int
 heard : Nat
 drawn : Nat
 out : ByteArray
 pc : Nat
 next : Nat
 steps : Nat
 en : Int
 ex : Int
 rep : Rpt
structure MFix where
 mb : Nat
 ph : Nat
 gc : Value
 bb : Nat
 ia : Option Addr
 icap : Nat
 code : List Ins
 inp : ByteArray
 da : Option Addr
 dcap : Nat
 ds : List Int
def mC (F : MFix) (S : MS) (vo vn : Value) : List Value :=
 mCells (.pointer (some ⟨F.ph, 0, none⟩)) (.slice F.ia F.code.length F.icap) S.r F.inp S.heard (.slice F.da F.ds.length F.dcap) S.drawn vo S.pc S.next S.steps S.en S.ex (rptCells S.rep vn)
structure MRep (F : MFix) (wB w : World) (G : GSt) (vo vn : Value) (S : MS) : Prop where
 blk : Blk w F.mb 81 (mC F S vo vn)
 heap : GRep w F.ph F.gc F.bb G
 sim : SimB G S.R
 out : w.ownsRow 0 5 1 vo S.out.size (bytesV S.out)
 near : w.ownsRow 0 64 3 vn S.rep.near.length (S.rep.near.flatMap nearCells)
 r8 : S.r.length = 8
 rbd : ∀ k, k < 8 → -9223372036854775808 ≤ rg S.r k ∧ rg S.r k ≤ 9223372036854775807
 below : Below wB.heap.size wB w
 hm : wB.heap.size ≤ F.mb
 hf : ∀ b, GFoot F.ph F.gc F.bb G b → wB.heap.size ≤ b ∧ b ≠ F.mb
 ho : ∀ g, vo.ownBlock = some g → wB.heap.size ≤ g ∧ g ≠ F.mb ∧ ¬ GFoot F.ph F.gc F.bb G g
 hn : ∀ g, vn.ownBlock = some g → wB.heap.size ≤ g ∧ g ≠ F.mb ∧ ¬ GFoot F.ph F.gc F.bb G g ∧ vo.ownBlock ≠ some g
 codeR : IRow wB F.ia F.icap F.code
 drawR : DRow wB F.da F.dcap F.ds
section
variable {F : MFix} {wB w w' : World} {G G' : GSt} {vo vn : Value} {S : MS}
theorem MRep.under (h : MRep F wB w G vo vn S) (hb : Below w.heap.size w w') : MRep F wB w' G vo vn S :=
 ⟨h.blk.below hb h.blk.lt, h.heap.below hb, h.sim, row_below h.out hb (own_lt h.out), row_below h.near hb (own_lt h.near), h.r8, h.rbd, h.below.trans (hb.mono h.below.size), h.hm, h.hf, h.ho, h.hn, h.codeR, h.drawR⟩
theorem MRep.call {R' : RSt} (h : MRep F wB w G vo vn S) (hg : GRep w' F.ph F.gc F.bb G') (hk : Kept w w' (GFoot F.ph F.gc F.bb G)) (hs : SimB G' R') (hf : ∀ b, GFoot F.ph F.gc F.bb G' b ↔ GFoot F.ph F.gc F.bb G b) :
 MRep F wB w' G' vo vn ⟨R', S.r, S.heard, S.drawn, S.out, S.pc, S.next, S.steps, S.en, S.ex, S.rep⟩ :=
 ⟨h.blk.kept hk (fun e => (h.hf _ e).2 rfl), hg, hs, row_kept h.out (fun g hg => hk.block g (own_lt h.out g hg) (h.ho g hg).2.2), row_kept h.near (fun g hg => hk.block g (own_lt h.near g hg) (h.hn g hg).2.2.1), h.r8, h.rbd,
   ⟨by rw [hk.os, h.below.os], by rw [hk.tape, h.below.tape], by rw [hk.output, h.below.output], Nat.le_trans h.below.size hk.size, fun k hkk => (hk.block k (Nat.lt_of_lt_of_le hkk h.below.size) (fun e => by have := (h.hf k e).1; omega)).trans (h.below.block k hkk)⟩,
   h.hm, fun b hb => h.hf b ((hf b).1 hb), fun g hg => ⟨(h.ho g hg).1, (h.ho g hg).2.1, fun e => (h.ho g hg).2.2 ((hf g).1 e)⟩, fun g hg => ⟨(h.hn g hg).1, (h.hn g hg).2.1, fun e => (h.hn g hg).2.2.1 ((hf g).1 e), (h.hn g hg).2.2.2⟩, h.codeR, h.drawR⟩
theorem MRep.own {S' : MS} (h : MRep F wB w G vo vn S) (hk : Kept w w' (· = F.mb)) (hb : Blk w' F.mb 81 (mC F S' vo vn)) (hR : S'.R = S.R) (ho : S'.out = S.out) (hn : S'.rep = S.rep) (h8 : S'.r.length = 8)
 (hr : ∀ k, k < 8 → -9223372036854775808 ≤ rg S'.r k ∧ rg S'.r k ≤ 9223372036854775807) : MRep F wB w' G vo vn S' :=
 ⟨hb, h.heap.kept (fun b hb => hk.block b (h.heap.foot_lt hb) (fun e => (h.hf b hb).2 e)), by rw [hR]; exact h.sim, by rw [ho]; exact row_kept h.out (fun g hg => hk.block g (own_lt h.out g hg) (fun e => (h.ho g hg).2.1 e)), by rw [hn]; exact row_kept h.near (fun g hg => hk.block g (own_lt h.near g hg) (fun e => (h.hn g hg).2.1 e)), h8, hr,
   ⟨by rw [hk.os, h.below.os], by rw [hk.tape, h.below.tape], by rw [hk.output, h.below.output], Nat.le_trans h.below.size hk.size, fun k hkk => (hk.block k (Nat.lt_of_lt_of_le hkk h.below.size) (fun e => by have := h.hm; omega)).trans (h.below.block k hkk)⟩,
   h.hm, h.hf, h.ho, h.hn, h.codeR, h.drawR⟩
end
def rAlloc (log : List Ref.Ev) (k s : Int) : Int := if Ref.given log k s < 0 then 0 else (log.getD (Ref.given log k s).toNat Ref.Ev.no).site
def rGone (log : List Ref.Ev) (k s : Int) : Int := if Ref.gone log k s < 0 then 0 else (log.getD (Ref.gone log k s).toNat Ref.Ev.no).site
def rNearAt (R : RSt) (k : Nat) (s want : Int) (i : Nat) : List (Int × Int × Int) :=
 if Ref.state R.log k i ≠ 2 ∧ Ref.last R.log k i = want ∧ (i : Int) - s < 2 ∧ s - (i : Int) < 2 then [((i : Int), rAlloc R.log k i, rGone R.log k i)] else []
def rNearTo (R : RSt) (k : Nat) (s want : Int) : Nat → List (Int × Int × Int)
 | 0 => []
 | m + 1 => rNearTo R k s want m ++ rNearAt R k s want m
def rlies (R : RSt) (er addr want : Int) : Rpt :=
 if (Cf.slot R.st R.cls addr).1 < 0 then ⟨er, addr, want, R.tag addr, if R.tag addr = 0 then 1 else 0, 0, 0, 0, 0, []⟩
 else ⟨er, addr, want, R.tag addr, Ref.state R.log (Cf.slot R.st R.cls addr).1 (Cf.slot R.st R.cls addr).2, (Cf.slot R.st R.cls addr).1, (Cf.slot R.st R.cls addr).2,
  if Ref.state R.log (Cf.slot R.st R.cls addr).1 (Cf.slot R.st R.cls addr).2 = 2 then 0 else rAlloc R.log (Cf.slot R.st R.cls addr).1 (Cf.slot R.st R.cls addr).2,
  if Ref.state R.log (Cf.slot R.st R.cls addr).1 (Cf.slot R.st R.cls addr).2 = 2 then 0 else rGone R.log (Cf.slot R.st R.cls addr).1 (Cf.slot R.st R.cls addr).2,
  rNearTo R (Cf.slot R.st R.cls addr).1.toNat (Cf.slot R.st R.cls addr).2 want (Cf.sl R.cls (Cf.slot R.st R.cls addr).1.toNat).toNat⟩
end Go.Proofs.YtjikemhmnkckcabGreat
