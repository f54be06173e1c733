import Derived.Test.YtjikemhmnkckcaaCodeNew
namespace Go.Proofs.Ytjikemhmnkckcaa
open Go.RowKit
attribute [local go_sem ↓] Go.wp_at_zero Go.wp_at_succ

set_option maxHeartbeats 400000 in
theorem slotBegin_any (b off : Nat) (bg by_ i : Int) (w : World) (h0 : w.cell? ⟨b, off, none⟩ = some (.int .i64 bg)) (h1 : w.cell? ⟨b, off + 1, none⟩ = some (.int .i64 by_))
    (b0 : 0 ≤ bg) (b1 : bg ≤ 1000000) (m0 : 0 ≤ i * by_) (m1 : i * by_ ≤ 1000000) :
    Calls Try.prog 43 #[.pointer (some ⟨b, off, none⟩), .int .i64 i] w fun e w' => e = .returned (.int .i64 (bg + i * by_)) ∧ Below w.heap.size w w' := by
  go_enter Try.func43, Try.ntmps43
  go_wp2
  go_quiet (fail)
  go_wp2
  go_ret
  exact ⟨rfl, below_drewN (Below.refl _ _) _⟩

theorem info_gcls : (Try.prog.info? 82).map (fun i => (i.zero, i.size, i.bytes)) = some (some (.agg #[.int .i64 0, .int .i64 0, .slice none 0 0]), 3, 40) := by kernel_rfl
theorem info_u8 : (Try.prog.info? 5).map (fun i => (i.zero, i.size, i.bytes)) = some (some (.int .u8 0), 1, 1) := by kernel_rfl

/-- the classes that New has made, up to the m-th -/
structure ClsOk (st : Int) (cls : List (Int × Int)) (m : Nat) (cs : List GCls) : Prop where
  len : cs.length = m
  bg : ∀ k, k < m → (cs.getD k GCls.no).begin_ = 16 * Cf.gran st cls k
  by_ : ∀ k, k < m → (cs.getD k GCls.no).bytes = 16 * Cf.gr cls k
  sl : ∀ k, k < m → (cs.getD k GCls.no).slots = List.replicate (Cf.sl cls k).toNat GSlot.virgin

/-- the program's New, within its loop -/
structure CnRel (w : World) (st rest : Int) (cls : List (Int × Int)) (pb hb : Nat) (sv : Value) (m : Nat) (v : Value) (cs : List GCls) (wr : World) : Prop where
  below : Below w.heap.size w wr
  pb0 : w.heap.size ≤ pb
  pbc : wr.cell? ⟨pb, 2, none⟩ = some sv
  pbl : pb < wr.heap.size
  hb0 : w.heap.size ≤ hb
  ne : pb ≠ hb
  hbk : Blk wr hb 86 [.int .i64 st, .int .i64 rest, v, .slice none 0 0]
  ok : ClsOk st cls m cs
  row : wr.ownsRow 0 82 3 v m (cs.flatMap gclsCells)
  vlo : ∀ g, v.ownBlock = some g → w.heap.size ≤ g ∧ g ≠ pb ∧ g ≠ hb
  slots : ∀ k, k < m → Blk wr (cs.getD k GCls.no).sb 79 ((cs.getD k GCls.no).slots.flatMap slotCells)
  slo : ∀ k, k < m → w.heap.size ≤ (cs.getD k GCls.no).sb ∧ (cs.getD k GCls.no).sb ≠ pb ∧ (cs.getD k GCls.no).sb ≠ hb ∧ v.ownBlock ≠ some (cs.getD k GCls.no).sb
  sne : ∀ j k, j < m → k < m → j ≠ k → (cs.getD j GCls.no).sb ≠ (cs.getD k GCls.no).sb

/-- the relation keeps under calls that only make memory -/
theorem CnRel.later {w wr w' : World} {st rest : Int} {cls : List (Int × Int)} {pb hb : Nat} {sv : Value} {m : Nat} {v : Value} {cs : List GCls} (h : CnRel w st rest cls pb hb sv m v cs wr) (b : Below wr.heap.size wr w') : CnRel w st rest cls pb hb sv m v cs w' :=
  ⟨h.below.trans (b.mono h.below.size), h.pb0, (b.cell (p := ⟨pb, 2, none⟩) h.pbl).trans h.pbc, Nat.lt_of_lt_of_le h.pbl b.size, h.hb0, h.ne, h.hbk.below b h.hbk.lt, h.ok, row_below h.row b fun _ => row_lt h.row, h.vlo, fun k hk => (h.slots k hk).below b (h.slots k hk).lt, h.slo, h.sne⟩

theorem getD_app_l {α : Type} (l : List α) (x d : α) (k : Nat) (h : k < l.length) : (l ++ [x]).getD k d = l.getD k d := by
  rw [List.getD_eq_getElem?_getD, List.getD_eq_getElem?_getD, List.getElem?_append_left h]
theorem getD_app_r {α : Type} (l : List α) (x d : α) (k : Nat) (h : k = l.length) : (l ++ [x]).getD k d = x := by subst h; simp

theorem CnRel.step {w wr : World} {st rest : Int} {cls : List (Int × Int)} {pb hb : Nat} {sv : Value} {m : Nat} {v : Value} {cs : List GCls} (h : CnRel w st rest cls pb hb sv m v cs wr)
    {sb n : Nat} (hn : (Cf.sl cls m).toNat = n) (hsb : Blk wr sb 79 ((List.replicate n GSlot.virgin).flatMap slotCells)) (s0 : w.heap.size ≤ sb) (sp : sb ≠ pb) (sh : sb ≠ hb) (sv' : v.ownBlock ≠ some sb) (ss : ∀ k, k < m → (cs.getD k GCls.no).sb ≠ sb)
    {cs1 : Array Value} {t : TypeId} {w2 : World} {gg cap2 : Nat}
    (hown1 : w2.ownsRow 0 82 3 (.slice (some ⟨gg, 0, none⟩) (m + 1) cap2) (m + 1) (cs.flatMap gclsCells ++ [.int .i64 (16 * Cf.gran st cls m), .int .i64 (16 * Cf.gr cls m), .slice (some ⟨sb, 0, none⟩) n n]))
    (hgrow : ((wr.alloc (.cells cs1 t)).drew).grownBy w2 v.ownBlock) (hat : v.ownBlock = some gg ∨ gg = wr.heap.size + 1) :
    CnRel w st rest cls pb hb sv (m + 1) (.slice (some ⟨gg, 0, none⟩) (m + 1) cap2) (cs ++ [⟨16 * Cf.gran st cls m, 16 * Cf.gr cls m, List.replicate n GSlot.virgin, sb⟩]) (w2.setCell ⟨hb, 2, none⟩ (.slice (some ⟨gg, 0, none⟩) (m + 1) cap2)) := by
  have hpl := h.pbl
  have hol := h.hbk.lt
  have hsl := hsb.lt
  have hsz := h.below.size
  have hp0 := h.pb0
  have ho0 := h.hb0
  have hne := h.ne
  have hlen := h.ok.len
  have hggb : w.heap.size ≤ gg ∧ gg ≠ pb ∧ gg ≠ hb := by
    rcases hat with e | e
    · exact h.vlo gg e
    · omega
  have hggs : gg ≠ sb := by
    rcases hat with e | e
    · intro e2; subst e2; exact sv' e
    · omega
  have hggk : ∀ k, k < m → gg ≠ (cs.getD k GCls.no).sb := fun k hk => by
    have := (h.slots k hk).lt
    rcases hat with e | e
    · intro e2; exact (h.slo k hk).2.2.2 (e2 ▸ e)
    · omega
  have hsz2 := hgrow.size
  rw [World.size_drew, World.size_alloc] at hsz2
  have hpv : some pb ≠ v.ownBlock := fun e => (h.vlo pb e.symm).2.1 rfl
  have hov : some hb ≠ v.ownBlock := fun e => (h.vlo hb e.symm).2.2 rfl
  have hblk : ∀ b, b < wr.heap.size → some b ≠ v.ownBlock → b ≠ hb → (w2.setCell ⟨hb, 2, none⟩ (.slice (some ⟨gg, 0, none⟩) (m + 1) cap2)).heap[b]? = wr.heap[b]? := fun b hb1 hb2 hb3 => by
    rw [Below.heap_setCell w2 _ _ b hb3, hgrow.block b (by simp; omega) hb2]
    exact Below.heap_alloc wr _ b hb1
  refine ⟨?_, hp0, ?_, ?_, ho0, hne, ?_, ?_, ?_, ?_, ?_, ?_, ?_⟩
  · exact (((h.below.alloc (by omega) _).drew).grown hgrow (by rw [World.size_drew, World.size_alloc]; omega) (fun k hk => (h.vlo k hk).1)).setCell ho0 _
  · rw [World.cell?_of_block (hblk pb hpl hpv hne)]; exact h.pbc
  · rw [World.size_setCell]; omega
  · have hbk2 : Blk w2 hb 86 [.int .i64 st, .int .i64 rest, v, .slice none 0 0] := by
      have e1 := hgrow.block hb (by simp; omega) hov
      have e2 : (wr.alloc (.cells cs1 t)).drew.heap[hb]? = wr.heap[hb]? := Below.heap_alloc wr _ hb hol
      exact (e1.trans e2).trans h.hbk
    exact hbk2.setCell 2 _
  · refine ⟨by simp [hlen], fun k hk => ?_, fun k hk => ?_, fun k hk => ?_⟩
    all_goals
      by_cases e : k = m
      · rw [getD_app_r _ _ _ k (by omega), e]
        try rw [hn]
      · rw [getD_app_l _ _ _ _ (by omega)]
        first | exact h.ok.bg k (by omega) | exact h.ok.by_ k (by omega) | exact h.ok.sl k (by omega)
  · refine row_kept ?_ (fun g hg => Below.heap_setCell w2 _ _ g (by simp [Value.ownBlock] at hg; show g ≠ hb; omega))
    rw [List.flatMap_append]
    simpa [gclsCells] using hown1
  · intro g hg
    simp [Value.ownBlock] at hg
    subst hg
    exact hggb
  · intro k hk
    by_cases e : k = m
    · rw [getD_app_r _ _ _ k (by omega)]
      exact (hblk sb hsl (fun e => sv' e.symm) sh).trans hsb
    · rw [getD_app_l _ _ _ _ (by omega)]
      have hs := h.slo k (by omega)
      exact (hblk _ (h.slots k (by omega)).lt (fun e => hs.2.2.2 e.symm) hs.2.2.1).trans (h.slots k (by omega))
  · intro k hk
    by_cases e : k = m
    · rw [getD_app_r _ _ _ k (by omega)]
      exact ⟨s0, sp, sh, by simp [Value.ownBlock]; exact hggs⟩
    · rw [getD_app_l _ _ _ _ (by omega)]
      have hs := h.slo k (by omega)
      exact ⟨hs.1, hs.2.1, hs.2.2.1, by simp [Value.ownBlock]; exact hggk k (by omega)⟩
  · intro j k hj hk hjk
    by_cases e : k = m
    · rw [getD_app_r _ _ _ k (by omega), getD_app_l _ _ _ j (by omega)]
      exact ss j (by omega)
    · by_cases e2 : j = m
      · rw [getD_app_r _ _ _ j (by omega), getD_app_l _ _ _ k (by omega)]
        exact (ss k (by omega)).symm
      · rw [getD_app_l _ _ _ j (by omega), getD_app_l _ _ _ k (by omega)]
        exact h.sne j k (by omega) (by omega) hjk
end Go.Proofs.Ytjikemhmnkckcaa
