import Derived.Test.YtjikemhmnkckcaaJ11
import Derived.Test.YtjikemhmnkckcaaJ19
namespace Go.Proofs.Ytjikemhmnkckcaa
open Go.RowKit
attribute [local go_sem ↓] Go.wp_at_zero Go.wp_at_succ

set_option maxHeartbeats 400000 in
theorem num_any (e : Int) (w : World) : Calls Try.prog 40 #[.int .i64 e] w fun e' w' => e' = .returned (.int .i64 e) ∧ w = w' := by
  go_enter Try.func40, Try.ntmps40
  go_wp2
  go_ret
  exact ⟨rfl, rfl⟩

/-- the script's world in memory: the two heaps, the pointers that came out; (no list has come out) -/
structure WRep (w : World) (q ph : Nat) (gc : Value) (bb : Nat) (G : GSt) (pr : Nat) (vc vl vm : Value) (R : RSt) (vp : Value) (ps : List Int) (vs : Value) : Prop where
  blk : Blk w q 33 [.pointer (some ⟨ph, 0, none⟩), .pointer (some ⟨pr, 0, none⟩), vp, vs]
  g : GRep w ph gc bb G
  r : RRep w pr vc vl vm R
  ps : w.ownsRow 0 3 1 vp ps.length (ps.map (Value.int .i64))
  sim : Sim G R
  qg : ¬ GFoot ph gc bb G q
  qr : ¬ RFoot pr vc vl vm q
  gr : ∀ b, GFoot ph gc bb G b → ¬ RFoot pr vc vl vm b
  pq : vp.ownBlock ≠ some q
  pg : ∀ b, vp.ownBlock = some b → ¬ GFoot ph gc bb G b
  pr_ : ∀ b, vp.ownBlock = some b → ¬ RFoot pr vc vl vm b

def WFoot (q ph : Nat) (gc : Value) (bb : Nat) (G : GSt) (pr : Nat) (vc vl vm : Value) (vp : Value) (b : Nat) : Prop := b = q ∨ GFoot ph gc bb G b ∨ RFoot pr vc vl vm b ∨ vp.ownBlock = some b

theorem WRep.foot_lt {w : World} {q ph : Nat} {gc : Value} {bb : Nat} {G : GSt} {pr : Nat} {vc vl vm : Value} {R : RSt} {vp : Value} {ps : List Int} {vs : Value} (h : WRep w q ph gc bb G pr vc vl vm R vp ps vs) {b : Nat} (hb : WFoot q ph gc bb G pr vc vl vm vp b) : b < w.heap.size := by
  rcases hb with rfl | hb | hb | hb
  · exact h.blk.lt
  · exact h.g.foot_lt hb
  · exact h.r.foot_lt hb
  · exact row_lt h.ps hb
theorem WRep.kept {w w' : World} {q ph : Nat} {gc : Value} {bb : Nat} {G : GSt} {pr : Nat} {vc vl vm : Value} {R : RSt} {vp : Value} {ps : List Int} {vs : Value} (h : WRep w q ph gc bb G pr vc vl vm R vp ps vs) (hk : ∀ b, WFoot q ph gc bb G pr vc vl vm vp b → w'.heap[b]? = w.heap[b]?) : WRep w' q ph gc bb G pr vc vl vm R vp ps vs :=
  ⟨(hk q (.inl rfl)).trans h.blk, h.g.kept (fun b hb => hk b (.inr (.inl hb))), h.r.kept (fun b hb => hk b (.inr (.inr (.inl hb)))), row_kept h.ps (fun g hg => hk g (.inr (.inr (.inr hg)))), h.sim, h.qg, h.qr, h.gr, h.pq, h.pg, h.pr_⟩
theorem WRep.below {w w' : World} {q ph : Nat} {gc : Value} {bb : Nat} {G : GSt} {pr : Nat} {vc vl vm : Value} {R : RSt} {vp : Value} {ps : List Int} {vs : Value} (h : WRep w q ph gc bb G pr vc vl vm R vp ps vs) (hb : Below w.heap.size w w') : WRep w' q ph gc bb G pr vc vl vm R vp ps vs :=
  h.kept fun _ hf => hb.block _ (h.foot_lt hf)

set_option maxRecDepth 100000 in
set_option maxHeartbeats 1600000 in
theorem begin_no (st rest : Int) (a : Option Addr) (cap : Nat) (cls : List (Int × Int)) (w : World) (h : CRow w a cap cls) (hreach : cls.length * 16 ≤ 140737488351232) (hv : Cf.validB st rest cls = false) :
    Calls Try.prog 15 #[.agg #[.int .i64 st, .int .i64 rest, .slice a cls.length cap]] w fun e w' => e = .returned (.tuple #[.pointer none, .bool true]) ∧ Below w.heap.size w w' := by
  have HC : Hid (CRow w a cap cls) := h
  clear h
  go_enter Try.func15, Try.ntmps15
  go_wp2_with fail
  refine (handed_any st rest a cap cls _ (HC.out.below ((Below.refl _ _).alloc (Nat.le_refl _) _)) hreach).mono ?_
  rintro e1 w1 ⟨L, rfl, hb1, hL, hLb⟩
  have hw1 : Below w.heap.size w w1 := ((Below.refl _ _).alloc (Nat.le_refl _) _).trans (hb1.mono (by simp))
  rw [World.size_alloc] at hL
  have hLl := hLb.lt
  have q0 := (hb1.cell (p := ⟨w.heap.size, 0, none⟩) (by simp)).trans (World.cell?_alloc_new _ _ _ _)
  have q1 := (hb1.cell (p := ⟨w.heap.size, 1, none⟩) (by simp)).trans (World.cell?_alloc_new _ _ _ _)
  have q2 := (hb1.cell (p := ⟨w.heap.size, 2, none⟩) (by simp)).trans (World.cell?_alloc_new _ _ _ _)
  go_wp2_with fail
  obtain ⟨W2, hW2⟩ : ∃ W2, W2 = w1.alloc (.cells #[.int .i64 st, .int .i64 rest, .slice (some ⟨L, 0, none⟩) cls.length (cls.length + 2)] 24) := ⟨_, rfl⟩
  rw [← hW2]
  have hs2 : W2.heap.size = w1.heap.size + 1 := by rw [hW2, World.size_alloc]
  have hw12 : Below w1.heap.size w1 W2 := by rw [hW2]; exact (Below.refl _ _).alloc (Nat.le_refl _) _
  have hw2 : Below w.heap.size w W2 := hw1.trans (hw12.mono hw1.size)
  have hLb2 : Blk W2 L 67 (cls.flatMap clsCells ++ room4) := hLb.below hw12 hLl
  have hown : Blk W2 w1.heap.size 24 [.int .i64 st, .int .i64 rest, .slice (some ⟨L, 0, none⟩) cls.length (cls.length + 2)] := by rw [hW2]; exact Blk.alloc _ _ _
  have hq : w.heap.size < w1.heap.size := by have := hb1.size; rw [World.size_alloc] at this; omega
  have q0 := (hw12.cell (p := ⟨w.heap.size, 0, none⟩) hq).trans q0
  have q1 := (hw12.cell (p := ⟨w.heap.size, 1, none⟩) hq).trans q1
  have q2 := (hw12.cell (p := ⟨w.heap.size, 2, none⟩) hq).trans q2
  have hco : CRow W2 (some ⟨L, 0, none⟩) (cls.length + 2) cls := crow_own hLb2 (by simp [maxLen]; omega)
  have hmx : W2.heap.size = w1.heap.size + 1 := hs2
  clear hW2 hb1 hLb hw12
  refine (gnew_no st rest _ _ cls _ hco hv).mono ?_
  rintro e1 w3 ⟨rfl, hb3⟩
  have hw3 : Below w.heap.size w w3 := hw2.trans (hb3.mono hw2.size)
  have q0 := (hb3.cell (p := ⟨w.heap.size, 0, none⟩) (show w.heap.size < _ by omega)).trans q0
  have q1 := (hb3.cell (p := ⟨w.heap.size, 1, none⟩) (show w.heap.size < _ by omega)).trans q1
  have q2 := (hb3.cell (p := ⟨w.heap.size, 2, none⟩) (show w.heap.size < _ by omega)).trans q2
  have HV : Hid (Cf.validB st rest cls = false) := hv
  have HL3 : Hid (Blk w3 L 67 (cls.flatMap clsCells ++ room4)) := hLb2.below hb3 (by omega)
  have HO3 : Hid (Blk w3 w1.heap.size 24 [.int .i64 st, .int .i64 rest, .slice (some ⟨L, 0, none⟩) cls.length (cls.length + 2)]) := hown.below hb3 hown.lt
  have hs3 := hb3.size
  clear hv hLb2 hown hco
  go_wp2_with fail
  refine (rnew_no st rest a cap cls _ (HC.out.below hw3) HV.out).mono ?_
  rintro e1 w4 ⟨rfl, hb4⟩
  have hw4 : Below w.heap.size w w4 := hw3.trans (hb4.mono hw3.size)
  have hs4 := hb4.size
  have q0 := (hb4.cell (p := ⟨w.heap.size, 0, none⟩) (show w.heap.size < _ by omega)).trans q0
  have q1 := (hb4.cell (p := ⟨w.heap.size, 1, none⟩) (show w.heap.size < _ by omega)).trans q1
  have q2 := (hb4.cell (p := ⟨w.heap.size, 2, none⟩) (show w.heap.size < _ by omega)).trans q2
  have hL4 : Blk w4 L 67 (cls.flatMap clsCells ++ room4) := HL3.out.below hb4 (by omega)
  have hO4 := HO3.out.below hb4 HO3.out.lt
  have o0 := hO4.cell (j := 0) rfl
  have o1 := hO4.cell (j := 1) rfl
  have o2 := hO4.cell (j := 2) rfl
  go_wp2_with fail
  refine (still_any st rest a cap L cls _ hL4 (HC.out.below hw4) hreach).mono ?_
  rintro e1 w5 ⟨rfl, hk5⟩
  have hw5 : Below w.heap.size w w5 := hw4.trans (hk5.to_below hw4.size (fun k hk => by subst hk; omega))
  clear q0 q1 q2 o0 o1 o2 hO4 hL4 hk5
  go_wp2_with (go_at_call 40; refine (num_any _ _).mono ?_; rintro e1 w6 ⟨rfl, rfl⟩)
  go_ret2
  exact ⟨rfl, hw5⟩

set_option maxRecDepth 100000 in
set_option maxHeartbeats 1600000 in
theorem begin_yes2 (st rest : Int) (a : Option Addr) (cap : Nat) (cls : List (Int × Int)) (w : World) (h : CRow w a cap cls) (hreach : cls.length * 16 ≤ 140737488351232) (hv : Cf.Valid st rest cls) :
    Calls Try.prog 15 #[.agg #[.int .i64 st, .int .i64 rest, .slice a cls.length cap]] w fun e w' => ∃ q ph gc bb G pr vc, e = .returned (.tuple #[.pointer (some ⟨q, 0, none⟩), .bool true]) ∧
      WRep w' q ph gc bb G pr vc (.slice none 0 0) (.slice none 0 0) ⟨st, rest, cls, [], []⟩ (.slice none 0 0) [] (.slice none 0 0) ∧ Below w.heap.size w w' ∧ (∀ b, WFoot q ph gc bb G pr vc (.slice none 0 0) (.slice none 0 0) (.slice none 0 0) b → w.heap.size ≤ b) ∧ ∀ i, G.mem.getD i 0 = 0 := by
  have HC : Hid (CRow w a cap cls) := h
  clear h
  go_enter Try.func15, Try.ntmps15
  go_wp2_with fail
  refine (handed_any st rest a cap cls _ (HC.out.below ((Below.refl _ _).alloc (Nat.le_refl _) _)) hreach).mono ?_
  rintro e1 w1 ⟨L, rfl, hb1, hL, hLb⟩
  have hw1 : Below w.heap.size w w1 := ((Below.refl _ _).alloc (Nat.le_refl _) _).trans (hb1.mono (by simp))
  rw [World.size_alloc] at hL
  have hLl := hLb.lt
  have q0 := (hb1.cell (p := ⟨w.heap.size, 0, none⟩) (by simp)).trans (World.cell?_alloc_new _ _ _ _)
  have q1 := (hb1.cell (p := ⟨w.heap.size, 1, none⟩) (by simp)).trans (World.cell?_alloc_new _ _ _ _)
  have q2 := (hb1.cell (p := ⟨w.heap.size, 2, none⟩) (by simp)).trans (World.cell?_alloc_new _ _ _ _)
  go_wp2_with fail
  obtain ⟨W2, hW2⟩ : ∃ W2, W2 = w1.alloc (.cells #[.int .i64 st, .int .i64 rest, .slice (some ⟨L, 0, none⟩) cls.length (cls.length + 2)] 24) := ⟨_, rfl⟩
  rw [← hW2]
  have hs2 : W2.heap.size = w1.heap.size + 1 := by rw [hW2, World.size_alloc]
  have hw12 : Below w1.heap.size w1 W2 := by rw [hW2]; exact (Below.refl _ _).alloc (Nat.le_refl _) _
  have hw2 : Below w.heap.size w W2 := hw1.trans (hw12.mono hw1.size)
  have hLb2 : Blk W2 L 67 (cls.flatMap clsCells ++ room4) := hLb.below hw12 hLl
  have hown : Blk W2 w1.heap.size 24 [.int .i64 st, .int .i64 rest, .slice (some ⟨L, 0, none⟩) cls.length (cls.length + 2)] := by rw [hW2]; exact Blk.alloc _ _ _
  have hq : w.heap.size < w1.heap.size := by have := hb1.size; rw [World.size_alloc] at this; omega
  have q0 := (hw12.cell (p := ⟨w.heap.size, 0, none⟩) hq).trans q0
  have q1 := (hw12.cell (p := ⟨w.heap.size, 1, none⟩) hq).trans q1
  have q2 := (hw12.cell (p := ⟨w.heap.size, 2, none⟩) hq).trans q2
  have hco : CRow W2 (some ⟨L, 0, none⟩) (cls.length + 2) cls := crow_own hLb2 (by simp [maxLen]; omega)
  have hmx : W2.heap.size = w1.heap.size + 1 := hs2
  clear hW2 hb1 hLb hw12
  refine (gnew_yes st rest _ _ cls _ hco hv).mono ?_
  rintro e1 w3 ⟨ph, gc, bb, cs, rfl, hG, hok, hb3, hgf⟩
  have hw3 : Below w.heap.size w w3 := hw2.trans (hb3.mono hw2.size)
  have q0 := (hb3.cell (p := ⟨w.heap.size, 0, none⟩) (show w.heap.size < _ by omega)).trans q0
  have q1 := (hb3.cell (p := ⟨w.heap.size, 1, none⟩) (show w.heap.size < _ by omega)).trans q1
  have q2 := (hb3.cell (p := ⟨w.heap.size, 2, none⟩) (show w.heap.size < _ by omega)).trans q2
  have HV : Hid (Cf.Valid st rest cls) := hv
  have HL3 : Hid (Blk w3 L 67 (cls.flatMap clsCells ++ room4)) := hLb2.below hb3 (by omega)
  have HO3 : Hid (Blk w3 w1.heap.size 24 [.int .i64 st, .int .i64 rest, .slice (some ⟨L, 0, none⟩) cls.length (cls.length + 2)]) := hown.below hb3 hown.lt
  have hs3 := hb3.size
  have hml : ((List.replicate (16 * Cf.gran st cls cls.length).toNat (0 : Int)).length : Int) = 16 * Cf.gran st cls cls.length := by have := Cf.gran_bd hv cls.length (Nat.le_refl _); rw [List.length_replicate]; omega
  have HM0 : Hid (∀ i, (List.replicate (16 * Cf.gran st cls cls.length).toNat (0 : Int)).getD i 0 = 0) := fun i => by
    rw [List.getD_eq_getElem?_getD, List.getElem?_replicate]; split <;> rfl
  generalize List.replicate (16 * Cf.gran st cls cls.length).toNat (0 : Int) = mem at *
  have HML : Hid ((mem.length : Int) = 16 * Cf.gran st cls cls.length) := hml
  clear hml
  have HG : Hid (GRep w3 ph gc bb ⟨st, rest, cs, mem⟩) := hG
  have HGF : Hid (∀ b, GFoot ph gc bb ⟨st, rest, cs, mem⟩ b → W2.heap.size ≤ b) := hgf
  have HOK : Hid (ClsOk st cls cls.length cs) := hok
  clear hv hLb2 hown hco hG hgf hok
  go_wp2_with fail
  refine (rnew_yes st rest a cap cls _ (HC.out.below hw3) HV.out).mono ?_
  rintro e1 w4 ⟨pr, vc, rfl, hR, hb4, hpr, hvc⟩
  have hw4 : Below w.heap.size w w4 := hw3.trans (hb4.mono hw3.size)
  have hs4 := hb4.size
  have q0 := (hb4.cell (p := ⟨w.heap.size, 0, none⟩) (show w.heap.size < _ by omega)).trans q0
  have q1 := (hb4.cell (p := ⟨w.heap.size, 1, none⟩) (show w.heap.size < _ by omega)).trans q1
  have q2 := (hb4.cell (p := ⟨w.heap.size, 2, none⟩) (show w.heap.size < _ by omega)).trans q2
  have hL4 : Blk w4 L 67 (cls.flatMap clsCells ++ room4) := HL3.out.below hb4 (by omega)
  have hO4 := HO3.out.below hb4 HO3.out.lt
  have o0 := hO4.cell (j := 0) rfl
  have o1 := hO4.cell (j := 1) rfl
  have o2 := hO4.cell (j := 2) rfl
  have HRF : Hid (∀ b, RFoot pr vc (.slice none 0 0) (.slice none 0 0) b → w3.heap.size ≤ b) := fun b hb => by
    rcases hb with rfl | hb | hb | hb
    · exact hpr
    · exact hvc b hb
    · cases hb
    · cases hb
  have HR4 : Hid (RRep w4 pr vc (.slice none 0 0) (.slice none 0 0) ⟨st, rest, cls, [], []⟩) := hR
  have HG4 : Hid (GRep w4 ph gc bb ⟨st, rest, cs, mem⟩) := HG.out.below hb4
  clear hR hpr hvc
  go_wp2_with fail
  refine (still_any st rest a cap L cls _ hL4 (HC.out.below hw4) hreach).mono ?_
  rintro e1 w5 ⟨rfl, hk5⟩
  have hw5 : Below w.heap.size w w5 := hw4.trans (hk5.to_below hw4.size (fun k hk => by subst hk; omega))
  have HG5 : Hid (GRep w5 ph gc bb ⟨st, rest, cs, mem⟩) := HG4.out.kept fun b hb => hk5.block b (HG4.out.foot_lt hb) (fun e => by have := HGF.out b hb; omega)
  have HR5 : Hid (RRep w5 pr vc (.slice none 0 0) (.slice none 0 0) ⟨st, rest, cls, [], []⟩) := HR4.out.kept fun b hb => hk5.block b (HR4.out.foot_lt hb) (fun e => by have := HRF.out b hb; omega)
  clear q0 q1 q2 o0 o1 o2 hO4 hL4 hk5
  go_wp2_with (go_at_call 40; refine (num_any _ _).mono ?_; rintro e1 w6 ⟨rfl, rfl⟩)
  go_ret2
  have hgl : ∀ b, GFoot ph gc bb ⟨st, rest, cs, mem⟩ b → b < w3.heap.size := fun b hb => HG.out.foot_lt hb
  refine ⟨w5.heap.size, ph, gc, bb, ⟨st, rest, cs, mem⟩, pr, vc, rfl, ⟨Blk.alloc _ _ _, HG5.out.below ((Below.refl _ _).alloc (Nat.le_refl _) _), HR5.out.below ((Below.refl _ _).alloc (Nat.le_refl _) _), World.ownsRow_nil _ _ _ _, Sim.start HV.out HOK.out mem HML.out, ?_, ?_, ?_, nofun, nofun, nofun⟩, hw5.alloc hw5.size _, ?_, HM0.out⟩
  · intro hb; have := HG5.out.foot_lt hb; omega
  · intro hb; have := HR5.out.foot_lt hb; omega
  · intro b hb hb2; have h1 := hgl b hb; have h2 := HRF.out b hb2; omega
  · intro b hb
    rcases hb with rfl | hb | hb | hb
    · exact hw5.size
    · have := HGF.out b hb; omega
    · have h2 := HRF.out b hb; have := hw3.size; omega
    · cases hb
theorem begin_yes (st rest : Int) (a : Option Addr) (cap : Nat) (cls : List (Int × Int)) (w : World) (h : CRow w a cap cls) (hreach : cls.length * 16 ≤ 140737488351232) (hv : Cf.Valid st rest cls) :
    Calls Try.prog 15 #[.agg #[.int .i64 st, .int .i64 rest, .slice a cls.length cap]] w fun e w' => ∃ q ph gc bb G pr vc, e = .returned (.tuple #[.pointer (some ⟨q, 0, none⟩), .bool true]) ∧
      WRep w' q ph gc bb G pr vc (.slice none 0 0) (.slice none 0 0) ⟨st, rest, cls, [], []⟩ (.slice none 0 0) [] (.slice none 0 0) ∧ Below w.heap.size w w' ∧ ∀ b, WFoot q ph gc bb G pr vc (.slice none 0 0) (.slice none 0 0) (.slice none 0 0) b → w.heap.size ≤ b := by
  refine (begin_yes2 st rest a cap cls w h hreach hv).mono ?_
  rintro e w' ⟨q, ph, gc, bb, G, pr, vc, h1, h2, h3, h4, _⟩
  exact ⟨q, ph, gc, bb, G, pr, vc, h1, h2, h3, h4⟩
end Go.Proofs.Ytjikemhmnkckcaa
