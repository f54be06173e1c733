import Derived.Test.YtjikemhmnkckcaaJ43
import Derived.Test.YtjikemhmnkckcaaJ51
import Derived.Deep.Cut
/- Explain and Blame of a script: the lists are their owner's. -/
namespace Go.Proofs.Ytjikemhmnkckcaa
open Go.RowKit

theorem blk_set10b {w : World} {b : Nat} {t : TypeId} {r : Rpt} {v : Value} (h : Blk w b t (rptCells r v)) (r' : Rpt) (v' : Value) :
    Blk ((((((((((w.setCell ⟨b, 0, none⟩ (.int .i64 r'.err)).setCell ⟨b, 1, none⟩ (.int .i64 r'.addr)).setCell ⟨b, 2, none⟩ (.int .i64 r'.want)).setCell ⟨b, 3, none⟩ (.int .i64 r'.found)).setCell ⟨b, 4, none⟩ (.int .i64 r'.state)).setCell ⟨b, 5, none⟩ (.int .i64 r'.cls)).setCell ⟨b, 6, none⟩ (.int .i64 r'.slot)).setCell ⟨b, 7, none⟩ (.int .i64 r'.alloc)).setCell ⟨b, 8, none⟩ (.int .i64 r'.gone)).setCell ⟨b, 9, none⟩ v') b t (rptCells r' v') :=
  ((((((((((h.setCell 0 (.int .i64 r'.err)).setCell 1 (.int .i64 r'.addr)).setCell 2 (.int .i64 r'.want)).setCell 3 (.int .i64 r'.found)).setCell 4 (.int .i64 r'.state)).setCell 5 (.int .i64 r'.cls)).setCell 6 (.int .i64 r'.slot)).setCell 7 (.int .i64 r'.alloc)).setCell 8 (.int .i64 r'.gone)).setCell 9 v')

/-- a report in memory, made since w0 -/
structure RptAt (w0 : World) (r : Rpt) (rb : Nat) (v : Value) (wr : World) : Prop where
  blk : Blk wr rb 64 (rptCells r v)
  near : NearRel w0 r.near v wr
  fresh : w0.heap.size ≤ rb
theorem RptAt.later {w0 wr w' : World} {r : Rpt} {rb : Nat} {v : Value} (h : RptAt w0 r rb v wr) (b : Below wr.heap.size wr w') : RptAt w0 r rb v w' := ⟨h.blk.below b h.blk.lt, h.near.later b, h.fresh⟩
theorem RptAt.behind {w0 w1 : World} {r : Rpt} {na : Option Addr} {ncap : Nat} (h : NearRel w0 r.near (.slice na r.near.length ncap) w1) : RptAt w0 r w1.heap.size (.slice na r.near.length ncap) (w1.alloc (.cells (rptCells r (.slice na r.near.length ncap)).toArray 64)) :=
  ⟨Blk.alloc w1 _ _, h.later ((Below.refl _ _).alloc (Nat.le_refl _) _), h.below.size⟩
theorem RptAt.ahead {w0 w1 : World} {r : Rpt} {na : Option Addr} {ncap : Nat} (hz : Blk w1 w0.heap.size 64 (rptCells (Rpt.only 0) (.slice none 0 0))) (hb : Below w0.heap.size w0 w1) (hr : w1.ownsRow 0 117 3 (.slice na r.near.length ncap) r.near.length (r.near.flatMap nearCells)) (hv : ∀ g, (Value.slice na r.near.length ncap).ownBlock = some g → w0.heap.size + 1 ≤ g) :
    RptAt w0 r w0.heap.size (.slice na r.near.length ncap) ((((((((((w1.setCell ⟨w0.heap.size, 0, none⟩ (.int .i64 r.err)).setCell ⟨w0.heap.size, 1, none⟩ (.int .i64 r.addr)).setCell ⟨w0.heap.size, 2, none⟩ (.int .i64 r.want)).setCell ⟨w0.heap.size, 3, none⟩ (.int .i64 r.found)).setCell ⟨w0.heap.size, 4, none⟩ (.int .i64 r.state)).setCell ⟨w0.heap.size, 5, none⟩ (.int .i64 r.cls)).setCell ⟨w0.heap.size, 6, none⟩ (.int .i64 r.slot)).setCell ⟨w0.heap.size, 7, none⟩ (.int .i64 r.alloc)).setCell ⟨w0.heap.size, 8, none⟩ (.int .i64 r.gone)).setCell ⟨w0.heap.size, 9, none⟩ (.slice na r.near.length ncap)) :=
  ⟨blk_set10b hz r _, ⟨below_set10 hb (Nat.le_refl _) _ _ _ _ _ _ _ _ _ _, row_kept hr (fun g hg => heap_set10 w1 (by have := hv g hg; omega) _ _ _ _ _ _ _ _ _ _), fun g hg => by have := hv g hg; omega⟩, Nat.le_refl _⟩

/-- a script's world after at most n steps, the lists that came out beside it -/
def EIn (w : World) (q n : Nat) (F : Nat → Prop) : Prop := ∃ vs L F0, TIn vs w q n F0 ∧ LRep w vs L ∧ L.length ≤ n ∧ (∀ b, F0 b → ¬ LFoot vs L b) ∧ (∀ b, F b ↔ F0 b ∨ LFoot vs L b)
theorem EIn.lt {w : World} {q n : Nat} {F : Nat → Prop} (h : EIn w q n F) {b : Nat} (hb : F b) : b < w.heap.size := by
  obtain ⟨vs, L, F0, hT, hL, _, _, hF⟩ := h
  rcases (hF b).1 hb with x | x
  · exact hT.lt x
  · exact hL.foot_lt x
theorem EIn.kept {w w' : World} {q n : Nat} {F : Nat → Prop} (h : EIn w q n F) (hk : ∀ b, F b → w'.heap[b]? = w.heap[b]?) : EIn w' q n F := by
  obtain ⟨vs, L, F0, hT, hL, hl, hd, hF⟩ := h
  exact ⟨vs, L, F0, hT.kept (fun b hb => hk b ((hF b).2 (.inl hb))), hL.kept (fun b hb => hk b ((hF b).2 (.inr hb))), hl, hd, hF⟩
theorem EIn.below {w w' : World} {q n : Nat} {F : Nat → Prop} (h : EIn w q n F) (hb : Below w.heap.size w w') : EIn w' q n F := h.kept fun b hf => hb.block b (h.lt hf)
theorem EIn.more {w : World} {q n m : Nat} {F : Nat → Prop} (h : EIn w q n F) (hm : n ≤ m) : EIn w q m F := by
  obtain ⟨vs, L, F0, hT, hL, hl, hd, hF⟩ := h
  exact ⟨vs, L, F0, hT.more hm, hL, by omega, hd, hF⟩
/-- a step of the elder kinds -/
theorem EIn.elder {w : World} {q n : Nat} {F : Nat → Prop} {args : Array Value} {f : FuncId} (h : EIn w q n F)
    (hstep : ∀ (vs : Value) (F0 : Nat → Prop), TIn vs w q n F0 → Calls Try.prog f args w fun e w' => ∃ F', e = .returned (.bool true) ∧ TIn vs w' q (n + 1) F' ∧ Kept w w' F0 ∧ ∀ b, F' b → F0 b ∨ w.heap.size ≤ b) :
    Calls Try.prog f args w fun e w' => ∃ F', e = .returned (.bool true) ∧ EIn w' q (n + 1) F' ∧ Kept w w' F ∧ ∀ b, F' b → F b ∨ w.heap.size ≤ b := by
  obtain ⟨vs, L, F0, hT, hL, hl, hd, hF⟩ := h
  refine (hstep vs F0 hT).mono ?_
  rintro e w' ⟨F', rfl, hT', hk, hn⟩
  have hL' : LRep w' vs L := hL.kept fun b hb => hk.block b (hL.foot_lt hb) (fun x => hd b x hb)
  refine ⟨fun b => F' b ∨ LFoot vs L b, rfl, ⟨vs, L, F', hT', hL', by omega, fun b hb x => ?_, fun b => Iff.rfl⟩, hk.mono fun b _ hb => (hF b).2 (.inl hb), fun b hb => ?_⟩
  · rcases hn b hb with y | y
    · exact hd b y x
    · have := hL.foot_lt x; omega
  · rcases hb with hb | hb
    · rcases hn b hb with y | y
      · exact .inl ((hF b).2 (.inl y))
      · exact .inr y
    · exact .inl ((hF b).2 (.inr hb))
/-- the world's own block turns to other lists, the rest stays -/
theorem WRep.lists {w w' : World} {q ph : Nat} {gc : Value} {bb : Nat} {G : GSt} {pr : Nat} {vc vl vm : Value} {R : RSt} {vp : Value} {ps : List Int} {vs vs' : Value} (h : WRep w q ph gc bb G pr vc vl vm R vp ps vs) (hq : Blk w' q 33 [.pointer (some ⟨ph, 0, none⟩), .pointer (some ⟨pr, 0, none⟩), vp, vs'])
    (hk : ∀ b, WFoot q ph gc bb G pr vc vl vm vp b → b ≠ q → w'.heap[b]? = w.heap[b]?) : WRep w' q ph gc bb G pr vc vl vm R vp ps vs' :=
  ⟨hq, h.g.kept (fun b hb => hk b (.inr (.inl hb)) (fun e => h.qg (e ▸ hb))), h.r.kept (fun b hb => hk b (.inr (.inr (.inl hb))) (fun e => h.qr (e ▸ hb))), row_kept h.ps (fun g hg => hk g (.inr (.inr (.inr hg))) (fun e => h.pq (e ▸ hg))), h.sim, h.qg, h.qr, h.gr, h.pq, h.pg, h.pr_⟩

/-- behind own: all together -/
theorem EIn.owned {w w5 : World} {q n : Nat} {F F0 : Nat → Prop} {ph : Nat} {gc : Value} {bb : Nat} {G : GSt} {pr : Nat} {vc vl vm : Value} {R : RSt} {vp : Value} {ps : List Int} {vs vs' f : Value} {L : List Value}
    (hW : WRep w q ph gc bb G pr vc vl vm R vp ps vs) (hS : SimB G R) (h1 : R.log.length ≤ 2 * n) (h2 : R.marks.length ≤ 65536 * n) (h3 : ps.length ≤ n) (hF0 : ∀ b, F0 b ↔ WFoot q ph gc bb G pr vc vl vm vp b) (_hL : LRep w vs L) (hl : L.length ≤ n) (hd : ∀ b, F0 b → ¬ LFoot vs L b) (hF : ∀ b, F b ↔ F0 b ∨ LFoot vs L b)
    (hk : Kept w w5 (fun b => b = q ∨ vs.ownBlock = some b)) (hq : Blk w5 q 33 [.pointer (some ⟨ph, 0, none⟩), .pointer (some ⟨pr, 0, none⟩), vp, vs']) (hL' : LRep w5 vs' (L ++ [f])) (hn : NewBlk vs vs' w) (hf : ∀ b, f.ownBlock = some b → w.heap.size ≤ b) :
    ∃ F', EIn w5 q (n + 1) F' ∧ Kept w w5 F ∧ ∀ b, F' b → F b ∨ w.heap.size ≤ b := by
  have hlf : ∀ b, LFoot vs' (L ++ [f]) b → LFoot vs L b ∨ w.heap.size ≤ b := by
    rintro b (x | ⟨i, hi, x⟩)
    · rcases hn b x with y | y
      · exact .inl (.inl y)
      · exact .inr y
    · by_cases e : i < L.length
      · rw [List.getD_eq_getElem?_getD, List.getElem?_append_left e, ← List.getD_eq_getElem?_getD] at x
        exact .inl (.inr ⟨i, e, x⟩)
      · have e2 : i = L.length := by simp at hi; omega
        subst e2
        simp at x
        exact .inr (hf b x)
  have hT : TIn vs' w5 q (n + 1) F0 := by
    refine ⟨ph, gc, bb, G, pr, vc, vl, vm, R, vp, ps, hW.lists hq (fun b hb hne => hk.block b (hW.foot_lt hb) ?_), hS, by omega, by omega, by omega, hF0⟩
    rintro (e | e)
    · exact hne e
    · exact hd b ((hF0 b).2 hb) (.inl e)
  refine ⟨fun b => F0 b ∨ LFoot vs' (L ++ [f]) b, ⟨vs', L ++ [f], F0, hT, hL', by simp; omega, fun b hb x => ?_, fun b => Iff.rfl⟩, hk.mono fun b _ e => ?_, fun b hb => ?_⟩
  · rcases hlf b x with y | y
    · exact hd b hb y
    · have := hW.foot_lt ((hF0 b).1 hb); omega
  · rcases e with e | e
    · exact (hF b).2 (.inl ((hF0 b).2 (.inl e)))
    · exact (hF b).2 (.inr (.inl e))
  · rcases hb with hb | hb
    · exact .inl ((hF b).2 (.inl hb))
    · rcases hlf b hb with y | y
      · exact .inl ((hF b).2 (.inr y))
      · exact .inr y

end Go.Proofs.Ytjikemhmnkckcaa
