import Derived.Test.YtjikemhmnkckcaaJ51
import Derived.Test.YtjikemhmnkckcaaJ39
import Derived.Deep.QuietTactic
import Derived.BigQuiet
/- Named: what the report on a block's pointer says. Plain mathematics. -/
namespace Go.Proofs.Ytjikemhmnkckcaa
open Go.RowKit

theorem access_where (R : RSt) (t a : Int) (t0 : 0 ≤ t) (t1 : t ≤ 15) (a0 : 0 ≤ a) (a1 : a ≤ 65535) (h : touchE (R.tag a) t = 7) : R.access (t * 72057594037927936 + a) 1 = (7, a) := by
  have h1 : (t * 72057594037927936 + a) % 72057594037927936 = a := by omega
  have h2 : (t * 72057594037927936 + a) / 72057594037927936 = t := by omega
  have h3 : Ref.tameB (t * 72057594037927936 + a) = true := (tame_iff _).2 ⟨by omega, by omega, by omega⟩
  unfold RSt.access
  rw [if_neg (by omega), if_neg (by omega), h3, if_pos rfl, h1, h2]
  show Ref.accFrom R.tag t a 1 0 = _
  simp only [Ref.accFrom]
  rw [show a + ((0 : Nat) : Int) = a by omega]
  unfold touchE at h
  by_cases c1 : R.tag a = -1
  · rw [if_pos c1] at h; omega
  · rw [if_neg c1] at h ⊢
    by_cases c2 : R.tag a = 15 ∨ R.tag a ≠ t
    · rw [if_pos c2]
    · rw [if_neg c2] at h; omega

theorem ghad_iff (x : GSlot) (t : Int) : ghad x t = true ↔ x.state ≠ 2 ∧ x.tag = t := by
  unfold ghad
  rw [Bool.and_eq_true, bne_iff_ne, beq_iff_eq]

section
variable {B : KSt} {G : GSt} {R : RSt} {x : KBlk} {k s : Nat} {t : Int}
theorem nearAt_in (hs : Sim G R) (hk : k < R.cls.length) (j : Int) (h : nearAt (G.cs.getD k GCls.no).slots j t ≠ []) : ∃ j' : Nat, j = j' ∧ j' < (Cf.sl R.cls k).toNat ∧ 0 ≤ Ref.given R.log k j ∧ Ref.last R.log k j = t := by
  unfold nearAt at h
  split at h
  · rename_i c
    obtain ⟨j', rfl⟩ := Int.eq_ofNat_of_zero_le c.1
    rw [Int.toNat_natCast] at c
    have hl := hs.len hk
    have hj : j' < (Cf.sl R.cls k).toNat := by omega
    have hx := hs.slots k j' hk hj
    have hg := (ghad_iff _ _).1 c.2.2
    change (slotOf G k j').state ≠ 2 ∧ (slotOf G k j').tag = t at hg
    rw [hx.st, hx.tag] at hg
    refine ⟨j', rfl, hj, ?_, hg.2⟩
    rcases state_of R.log k j' with y | y | y
    · exact absurd y.1 hg.1
    · exact y.2.1
    · exact y.2.1
  · exact absurd rfl h

theorem KHad.entry (h : KHad R x 0 k s t) (hok : KOk B G R) (hlv : x.live = true → Ref.state R.log k s = 3) : nearAt (G.cs.getD k GCls.no).slots s t = [((s : Int), x.site, x.gone)] := by
  have hs := hok.simb.sim
  have hl := hs.len h.hk
  have hx := hs.slots k s h.hk h.hs
  have hgv := h.gv
  have hc := h.cur rfl
  have hst : Ref.state R.log k s ≠ 2 := by
    rcases state_of R.log k s with y | y | y <;> omega
  unfold nearAt
  rw [Int.toNat_natCast, if_pos ⟨by omega, by have := h.hs; omega, (ghad_iff _ _).2 ⟨by change (slotOf G k s).state ≠ 2; rw [hx.st]; exact hst, by change (slotOf G k s).tag = t; rw [hx.tag, hc.1]⟩⟩]
  have e1 : (slotOf G k s).alloc = x.site := by rw [hx.alloc, if_neg (by omega), hc.2]
  have e2 : (slotOf G k s).gone = x.gone := by
    rw [hx.gone]
    by_cases hlive : x.live = true
    · rw [if_neg (by rw [hlv hlive]; decide), (h.lv hlive).2]
    · have hd := h.dead rfl (by simpa using hlive)
      rw [if_pos hd.1, hd.2]
  change [((s : Int), (slotOf G k s).alloc, (slotOf G k s).gone)] = _
  rw [e1, e2]

theorem gnear_eq (xs : List GSlot) (i tag : Int) : gnear xs i tag = nearAt xs (i - 1) tag ++ nearAt xs i tag ++ nearAt xs (i + 1) tag := by
  unfold gnear
  simp only [nearTo, List.nil_append]
  rw [show i - 1 + ((0 : Nat) : Int) = i - 1 by omega, show i - 1 + ((1 : Nat) : Int) = i by omega, show i - 1 + ((2 : Nat) : Int) = i + 1 by omega]

theorem KOk.near_two (hok : KOk B G R) (hk : k < R.cls.length) (i : Int) : (gnear (G.cs.getD k GCls.no).slots i t).length ≤ 2 := by
  rw [gnear_eq, List.length_append, List.length_append]
  have l1 := nearAt_len (G.cs.getD k GCls.no).slots (i - 1) t
  have l2 := nearAt_len (G.cs.getD k GCls.no).slots i t
  have l3 := nearAt_len (G.cs.getD k GCls.no).slots (i + 1) t
  by_cases c : nearAt (G.cs.getD k GCls.no).slots i t = []
  · rw [c, List.length_nil]; omega
  · by_cases c3 : nearAt (G.cs.getD k GCls.no).slots (i + 1) t = []
    · rw [c3, List.length_nil]; omega
    · exfalso
      obtain ⟨j, rfl, _, g1, e1⟩ := nearAt_in hok.simb.sim hk i c
      obtain ⟨_, _, _, g2, e2⟩ := nearAt_in hok.simb.sim hk _ c3
      exact hok.nb k j g1 g2 (e1.trans e2.symm)

theorem KHad.named (h : KHad R x 0 k s t) (hok : KOk B G R) (hlv : x.live = true → Ref.state R.log k s = 3) (i : Int) (hi : (s : Int) = i - 1 ∨ (s : Int) = i ∨ (s : Int) = i + 1) :
    (gnear (G.cs.getD k GCls.no).slots i t).length ≤ 2 ∧ ∃ J, J < (gnear (G.cs.getD k GCls.no).slots i t).length ∧ (gnear (G.cs.getD k GCls.no).slots i t).getD J nearNo = ((s : Int), x.site, x.gone) := by
  refine ⟨hok.near_two h.hk i, ?_⟩
  have he := h.entry hok hlv
  have hm : ((s : Int), x.site, x.gone) ∈ gnear (G.cs.getD k GCls.no).slots i t := by
    rw [gnear_eq]
    rcases hi with e | e | e
    · rw [← e, he]; simp
    · rw [← e, he]; simp
    · rw [← e, he]; simp
  obtain ⟨J, hJ, e⟩ := List.mem_iff_getElem.1 hm
  exact ⟨J, hJ, by rw [List.getD_eq_getElem?_getD, List.getElem?_eq_getElem hJ, e]; rfl⟩

/-- the report on the beginning of a slot -/
theorem grpt_at (hs : Sim G R) (hk : k < R.cls.length) (hsl : s < (Cf.sl R.cls k).toNat) (er want : Int) : grpt G R.cls er (Cf.begin_ R.st R.cls k s) want = ⟨er, Cf.begin_ R.st R.cls k s, want, R.tag (Cf.begin_ R.st R.cls k s), (slotOf G k s).state, k, s, (slotOf G k s).alloc, (slotOf G k s).gone, gnear (G.cs.getD k GCls.no).slots s want⟩ := by
  have hv := hs.rok.conf
  have hg := hv.g0 k hk
  have hslot := slot_at hv k s hk hsl (Cf.begin_ R.st R.cls k s) (by omega) (by omega)
  have hb : ¬ (16 ≤ Cf.begin_ R.st R.cls k s ∧ Cf.begin_ R.st R.cls k s < 16 * (1 + R.st)) := fun y => by
    rw [static_slot hv _ y.2] at hslot
    have := congrArg Prod.fst hslot
    simp at this
  unfold grpt
  rw [hs.st, if_neg hb, hslot, if_neg (by simp), hs.tag]
  rfl
theorem gexplain_at (hs : Sim G R) (hk : k < R.cls.length) (hsl : s < (Cf.sl R.cls k).toNat) (t0 : 1 ≤ t) (t1 : t ≤ 14) (ht : touchE (R.tag (Cf.begin_ R.st R.cls k s)) t = 7) : gexplain G R (t * 72057594037927936 + Cf.begin_ R.st R.cls k s) 1 = ⟨7, Cf.begin_ R.st R.cls k s, t, R.tag (Cf.begin_ R.st R.cls k s), (slotOf G k s).state, k, s, (slotOf G k s).alloc, (slotOf G k s).gone, gnear (G.cs.getD k GCls.no).slots s t⟩ := by
  have hv := hs.rok.conf
  have hbd := Cf.begin_bd hv k hk s (by omega) (by have := hv.s1 k hk; omega)
  have ha := access_where R t _ (by omega) (by omega) (by omega) (by omega) ht
  unfold gexplain
  rw [ha, if_pos (.inr rfl), show (t * 72057594037927936 + Cf.begin_ R.st R.cls k s) / 72057594037927936 = t by omega]
  exact grpt_at hs hk hsl 7 t

/-- what the report on another slot's beginning, or its own, says of block x -/
structure Told (r : Rpt) (x : KBlk) (a k s' t : Int) : Prop where
  err : r.err = 7
  addr : r.addr = a
  want : r.want = t
  cls : r.cls = k
  slot : r.slot = s'
  two : r.near.length ≤ 2
  mem : ∃ J, J < r.near.length ∧ r.near.getD J nearNo = (x.s, x.site, x.gone)
theorem KHad.told (h : KHad R x 0 k s t) (hok : KOk B G R) (hlv : x.live = true → Ref.state R.log k s = 3) (s' : Nat) (hs' : s' < (Cf.sl R.cls k).toNat) (hn : (s : Int) = (s' : Int) - 1 ∨ (s : Int) = s' ∨ (s : Int) = (s' : Int) + 1) (hd : s' = s → x.live = false) :
    Told (gexplain G R (t * 72057594037927936 + Cf.begin_ R.st R.cls k s') 1) x (Cf.begin_ R.st R.cls k s') k s' t := by
  have hg := hok.simb.sim.rok.conf.g0 k h.hk
  have ht : touchE (R.tag (Cf.begin_ R.st R.cls k s')) t = 7 := by
    refine slot_refused hok.simb k s' h.hk hs' t (fun h3 => ?_) _ (by omega) (by omega)
    rw [(h.cur rfl).1]
    rcases hn with e | e | e
    · intro y
      refine hok.nb k s h.gv ?_ ?_
      · rw [e, show (s' : Int) - 1 + 1 = s' by omega]; exact live_given h3
      · rw [show (s : Int) + 1 = s' by omega]; exact y
    · have e' : s' = s := by omega
      have := (h.dead rfl (hd e')).1
      rw [e'] at h3
      omega
    · intro y
      refine hok.nb k s' (live_given h3) ?_ ?_
      · rw [← e]; exact h.gv
      · rw [← e]; exact y.symm
  have hnm := h.named hok hlv s' hn
  rw [gexplain_at hok.simb.sim h.hk hs' h.t0 h.t1 ht]
  refine ⟨rfl, rfl, rfl, rfl, rfl, hnm.1, ?_⟩
  rw [h.es]
  exact hnm.2

/-- a freed block, the last of its slot -/
theorem KHad.gone_explain (h : KHad R x 0 k s t) (hok : KOk B G R) (hd : x.live = false) : (gexplain G R x.p 1).state = 4 ∧ (gexplain G R x.p 1).alloc = x.site ∧ (gexplain G R x.p 1).gone = x.gone ∧ (gexplain G R x.p 1).found = 15 := by
  have hs := hok.simb.sim
  have hg := hs.rok.conf.g0 k h.hk
  have hx := hs.slots k s h.hk h.hs
  have hdd := h.dead rfl hd
  have hgv := h.gv
  have htag := tag_rest hs.rok.conf k s h.hk h.hs (Cf.begin_ R.st R.cls k s) (by omega) (by omega) (.inl (by omega))
  rw [h.p, gexplain_at hs h.hk h.hs h.t0 h.t1 (by rw [htag]; exact touchE_poison _)]
  refine ⟨?_, ?_, ?_, htag⟩
  · show (slotOf G k s).state = 4
    rw [hx.st, hdd.1]
  · show (slotOf G k s).alloc = x.site
    rw [hx.alloc, if_neg (by omega), (h.cur rfl).2]
  · show (slotOf G k s).gone = x.gone
    rw [hx.gone, if_pos hdd.1, hdd.2]
theorem KHad.gone_blame (h : KHad R x 0 k s t) (hok : KOk B G R) (hd : x.live = false) : (gblame G R x.p).state = 4 ∧ (gblame G R x.p).alloc = x.site ∧ (gblame G R x.p).gone = x.gone ∧ (gblame G R x.p).err = 9 := by
  have hs := hok.simb.sim
  have hv := hs.rok.conf
  have hg := hv.g0 k h.hk
  have hbd := Cf.begin_bd hv k h.hk s (by omega) (by have := hv.s1 k h.hk; have := h.hs; omega)
  have t0 := h.t0
  have t1 := h.t1
  have hx := hs.slots k s h.hk h.hs
  have hdd := h.dead rfl hd
  have hgv := h.gv
  have e1 : x.p % 72057594037927936 = Cf.begin_ R.st R.cls k s := by rw [h.p]; omega
  have e2 : x.p / 72057594037927936 = t := by rw [h.p]; omega
  have htm : Ref.tameB x.p = true := (tame_iff _).2 ⟨by rw [h.p]; omega, by omega, by omega⟩
  have hslot := slot_at hv k s h.hk h.hs (Cf.begin_ R.st R.cls k s) (by omega) (by omega)
  have hb : gblock G R.cls x.p = (0, 0, 9) := by
    rw [gblock_at G R.cls x.p k s htm (by rw [hs.st, e1]; exact hslot), hs.st, e1, if_neg (by simp), e2]
    unfold gfound
    rw [hx.st, hx.tag, hdd.1, ← (h.cur rfl).1, if_neg (by simp), if_pos rfl]
  unfold gblame
  rw [hb, if_neg (by decide), e1, e2, grpt_at hs h.hk h.hs]
  refine ⟨?_, ?_, ?_, rfl⟩
  · show (slotOf G k s).state = 4
    rw [hx.st, hdd.1]
  · show (slotOf G k s).alloc = x.site
    rw [hx.alloc, if_neg (by omega), (h.cur rfl).2]
  · show (slotOf G k s).gone = x.gone
    rw [hx.gone, if_pos hdd.1, hdd.2]
theorem blame_nil (hs : Sim G R) : (gblame G R 0).err = 8 := by
  have hsl : Cf.slot R.st R.cls 0 = (-1, -1) := static_slot hs.rok.conf 0 (by have := hs.rok.conf.st0; omega)
  have htm : Ref.tameB 0 = true := (tame_iff _).2 ⟨by omega, by omega, by omega⟩
  have hb : gblock G R.cls 0 = (0, 0, 8) := gblock_none G R.cls 0 htm (by rw [hs.st]; exact hsl)
  unfold gblame
  rw [hb, if_neg (by decide)]
  unfold grpt
  split
  · rfl
  · split <;> rfl
end
end Go.Proofs.Ytjikemhmnkckcaa
/- Stale: an access that is refused. -/
namespace Go.Proofs.Ytjikemhmnkckcaa
open Go.RowKit

set_option maxRecDepth 100000 in
set_option maxHeartbeats 1600000 in
theorem gstore_no (p : Nat) (vc : Value) (bb : Nat) (G : GSt) (R : RSt) (q n v : Int) (w : World) (h : GRep w p vc bb G) (hs : SimB G R) (q1 : q ≤ 9223372036854775807) (he : R.storeErr q n ≠ 0) :
    Calls Try.prog 84 #[.pointer (some ⟨p, 0, none⟩), .int .i64 q, .int .i64 n, .int .i64 v] w fun e w' => e = .returned (.int .i64 (R.storeErr q n)) ∧ Below w.heap.size w w' := by
  have HR := hide2 h
  have HS := hide2 hs
  have heb : (R.storeErr q n != 0) = true := by simp [he]
  clear h hs he
  go_enter Try.func84, Try.ntmps84
  go_wp2_with (go_at_call 69; refine (accessNumber_any p vc bb G R q n w HR.out HS.out.sim q1).mono ?_; rintro e1 w1 ⟨rfl, hb1⟩)
  go_ret
  exact ⟨rfl, hb1⟩

set_option maxRecDepth 100000 in
set_option maxHeartbeats 3200000 in
theorem krefused_yes (pb ph : Nat) (gc : Value) (bb : Nat) (G : GSt) (R : RSt) (vc vL vF : Value) (B : KSt) (p want : Int) (w : World) (h : KRep w pb ph gc bb G vc vL vF B) (hs : SimB G R) (q1 : p ≤ 9223372036854775807) (hw : want ≠ 0) (ha : (R.access p 1).1 = want) :
    Calls Try.prog 57 #[.pointer (some ⟨pb, 0, none⟩), .int .i64 p, .int .i64 want] w fun e w' => e = .returned (.bool true) ∧ Below w.heap.size w w' := by
  have HA := hide2 h
  have HS := hide2 hs
  have hpb := h.blk.lt
  have c3 := h.blk.cell (j := 3) rfl
  have HL : Hid ((R.load p 1).2 = want) := by
    show _ = _
    unfold RSt.load
    rw [if_neg (by decide), if_pos (by rw [ha]; exact hw)]
    exact ha
  have HE : Hid (R.storeErr p 1 = want) := by
    show _ = _
    unfold RSt.storeErr
    rw [if_neg (by decide)]
    exact ha
  have HN : Hid (R.storeErr p 1 ≠ 0) := by
    show _ ≠ _
    rw [HE.out]; exact hw
  clear h hs ha hw
  go_enter Try.func57, Try.ntmps57
  go_wp2_with fail
  refine (gload_any ph gc bb G R p 1 w HA.out.heap HS.out q1).mono ?_
  rw [HL.out]
  rintro e1 w1 ⟨rfl, hb1⟩
  have HB1 := hide2 hb1
  have c3' := (hb1.cell (p := ⟨pb, 3, none⟩) hpb).trans c3
  clear hb1 c3
  go_wp2_with fail
  refine (gstore_no ph gc bb G R p 1 1 w1 (HA.out.heap.below HB1.out) HS.out q1 HN.out).mono ?_
  rw [HE.out]
  rintro e2 w2 ⟨rfl, hb2⟩
  have HB2 : Hid (Below w.heap.size w w2) := HB1.out.trans (hb2.mono HB1.out.size)
  have hee : (want == want) = true := by simp
  clear hb2 c3'
  go_wp2
  go_ret
  exact ⟨by simp, HB2.out⟩
end Go.Proofs.Ytjikemhmnkckcaa
/- Stale: how many blocks were given behind one. -/
namespace Go.Proofs.Ytjikemhmnkckcaa
open Go.RowKit

set_option maxRecDepth 100000 in
set_option maxHeartbeats 1600000 in
theorem klater_any (pb : Nat) (x0 x1 x2 x3 vL x5 x6 : Value) (L : List KBlk) (i : Nat) (w : World) (hB : Blk w pb 51 [x0, x1, x2, x3, vL, x5, x6]) (hL : w.ownsRow 0 53 7 vL L.length (L.flatMap kblkCells)) (hi : i < L.length) :
    Calls Try.prog 26 #[.pointer (some ⟨pb, 0, none⟩), .int .i64 (i : Int)] w fun e w' => e = .returned (.int .i64 (klater L i : Int)) ∧ Below w.heap.size w w' := by
  have c4 := hB.cell (j := 4) rfl
  have hpb := hB.lt
  obtain ⟨a, cap, rfl, hcap, hmax, hrow⟩ := row_open hL
  unfold maxLen at hmax
  obtain ⟨g, rfl, hgl, hcell, _⟩ := hrow (by omega)
  obtain ⟨_, i1, i2, _, _, _, _⟩ := kblk_cells hcell i hi
  have HCELL := hide2 hcell
  have hII : (i : Int) < (L.length : Int) := by omega
  have HZ := hide2 (klaterTo_early L i (i + 1) (Nat.le_refl _))
  clear hB hL hrow hcell
  go_enter Try.func26, Try.ntmps26
  go_wp2
  go_loopw [5, 6] (fun n j wr => ∃ m : Nat, i < m ∧ m ≤ L.length ∧ j = .int .i64 (m : Int) ∧ n = .int .i64 (klaterTo L i m : Int) ∧ Below w.heap.size w wr) (fun _ j _ => L.length - (intOf j).toNat)
  case atStart => exact ⟨i + 1, by omega, by omega, by go_num, by rw [HZ.out]; rfl, Below.refl _ _⟩
  case round =>
    obtain ⟨m, him, hm, rfl, rfl, hb⟩ := hrel
    have c4' := (hb.cell (p := ⟨pb, 4, none⟩) hpb).trans c4
    have i1' := (hb.cell (p := ⟨g, i * 7 + 1, none⟩) hgl).trans i1
    have i2' := (hb.cell (p := ⟨g, i * 7 + 2, none⟩) hgl).trans i2
    have hle := klaterTo_le L i m
    by_cases hlt : m < L.length
    · obtain ⟨_, d1, d2, _, _, _, _⟩ := kblk_cells HCELL.out m hlt
      have d1' := (hb.cell (p := ⟨g, m * 7 + 1, none⟩) hgl).trans d1
      have d2' := (hb.cell (p := ⟨g, m * 7 + 2, none⟩) hgl).trans d2
      have hI : (m : Int) < (L.length : Int) := by omega
      have hst : Hid (klaterTo L i (m + 1) = klaterTo L i m + if i < m ∧ (L.getD m KBlk.no).k = (L.getD i KBlk.no).k ∧ (L.getD m KBlk.no).s = (L.getD i KBlk.no).s then 1 else 0) := rfl
      clear d1 d2 i1 i2 c4
      generalize (L.getD m KBlk.no).k = xk at *
      generalize (L.getD m KBlk.no).s = xs at *
      generalize (L.getD i KBlk.no).k = yk at *
      generalize (L.getD i KBlk.no).s = ys at *
      by_cases hk : xk = yk
      · by_cases hs : xs = ys
        · have HN : Hid ((klaterTo L i (m + 1) : Int) = (klaterTo L i m : Int) + 1) := by show _ = _; rw [hst.out, if_pos ⟨him, hk, hs⟩]; rfl
          have hkb : decide (xk = yk) = true := by simp [hk]
          have hsb : decide (xs = ys) = true := by simp [hs]
          clear hst
          go_wp2_with fail
          go_quiet (fail)
          go_wp2
          go_roundw
          case rel => exact ⟨m + 1, by omega, by omega, by go_num, by first | (rw [HN.out]; done) | (rw [HN.out]; rfl), below_drewN hb _⟩
          case measure => simp [intOf]; omega
        · have HN : Hid (klaterTo L i (m + 1) = klaterTo L i m) := by show _ = _; rw [hst.out, if_neg (fun y => hs y.2.2), Nat.add_zero]
          have hkb : decide (xk = yk) = true := by simp [hk]
          have hsb : decide (xs = ys) = false := by simp [hs]
          clear hst
          go_wp2_with fail
          go_quiet (fail)
          go_wp2
          go_roundw
          case rel => exact ⟨m + 1, by omega, by omega, by go_num, by first | (rw [HN.out]; done) | (rw [HN.out]; rfl), below_drewN hb _⟩
          case measure => simp [intOf]; omega
      · have HN : Hid (klaterTo L i (m + 1) = klaterTo L i m) := by show _ = _; rw [hst.out, if_neg (fun y => hk y.2.1), Nat.add_zero]
        have hkb : decide (xk = yk) = false := by simp [hk]
        clear hst
        go_wp2_with fail
        go_quiet (fail)
        go_wp2
        go_roundw
        case rel => exact ⟨m + 1, by omega, by omega, by go_num, by first | (rw [HN.out]; done) | (rw [HN.out]; rfl), below_drewN hb _⟩
        case measure => simp [intOf]; omega
    · obtain rfl : m = L.length := by omega
      go_wp2
      go_ret
      exact ⟨rfl, hb⟩
end Go.Proofs.Ytjikemhmnkckcaa
/- Named: told. -/
namespace Go.Proofs.Ytjikemhmnkckcaa
open Go.RowKit
attribute [local go_sem ↓] Go.wp_at_zero Go.wp_at_succ

set_option maxRecDepth 100000 in
set_option maxHeartbeats 3200000 in
theorem ktold_any (pb ph : Nat) (gc : Value) (bb : Nat) (G : GSt) (R : RSt) (vc vL vF : Value) (B : KSt) (i : Nat) (q a t s' : Int) (w : World) (h : KRep w pb ph gc bb G vc vL vF B) (hs : Sim G R) (hi : i < B.L.length) (q0 : 0 ≤ q) (q1 : q ≤ 2000000000000000000) (p0 : 0 ≤ (B.L.getD i KBlk.no).p) (p1 : (B.L.getD i KBlk.no).p ≤ 2000000000000000000)
    (hq : q % 72057594037927936 = a) (hp : (B.L.getD i KBlk.no).p / 72057594037927936 = t) (ht : Told (gexplain G R q 1) (B.L.getD i KBlk.no) a (B.L.getD i KBlk.no).k s' t) :
    Calls Try.prog 35 #[.pointer (some ⟨pb, 0, none⟩), .int .i64 (i : Int), .int .i64 q, .int .i64 s'] w fun e w' => e = .returned (.bool true) ∧ Below w.heap.size w w' := by
  obtain ⟨al, cap, rfl, hcap, hmax, hrow⟩ := row_open h.L
  obtain ⟨g, rfl, hgl, hcell, hfrz⟩ := hrow (by omega)
  unfold maxLen at hmax
  have HK := hide2 h
  have HS := hide2 hs
  have hpb := h.blk.lt
  have c3 := h.blk.cell (j := 3) rfl
  have c4 := h.blk.cell (j := 4) rfl
  obtain ⟨d0, d1, d2, d3, d4, d5, d6⟩ := kblk_cells hcell i hi
  have hiI : (i : Int) < (B.L.length : Int) := by omega
  have HG := hide2 h.heap
  generalize B.L.getD i KBlk.no = x at *
  have HT := hide2 ht
  have HQ := hide2 hq
  have HP := hide2 hp
  clear h hs hrow hcell hfrz ht hq hp
  go_enter Try.func35, Try.ntmps35
  go_wp2_with fail
  obtain ⟨wa, hwa⟩ : ∃ wa, wa = w.alloc (.cells #[.int .i64 x.p, .int .i64 x.k, .int .i64 x.s, .slice (some ⟨x.wb, 0, none⟩) x.want.length x.want.length, .bool x.live, .int .i64 x.site, .int .i64 x.gone] 53) := ⟨_, rfl⟩
  rw [← hwa]
  have hba : Below w.heap.size w wa := by rw [hwa]; exact (Below.refl _ _).alloc (Nat.le_refl _) _
  have HX : Hid (Blk wa w.heap.size 53 [.int .i64 x.p, .int .i64 x.k, .int .i64 x.s, .slice (some ⟨x.wb, 0, none⟩) x.want.length x.want.length, .bool x.live, .int .i64 x.site, .int .i64 x.gone]) := by rw [hwa]; exact Blk.alloc _ _ _
  have HBA := hide2 hba
  obtain ⟨ob, hobe⟩ : ∃ ob, ob = w.heap.size := ⟨_, rfl⟩
  rw [← hobe] at HX ⊢
  have hob := HX.out.lt
  clear hwa c3 c4 d0 d1 d2 d3 d4 d5 d6 hba hobe
  refine (gexplain_any ph gc bb G R q 1 wa (HG.out.below HBA.out) HS.out (by omega)).mono ?_
  generalize gexplain G R q 1 = r at *
  rintro e1 w1 ⟨v, rfl, hn⟩
  obtain ⟨na, ncap, hv, -, -, -⟩ := row_open hn.row
  subst hv
  have HN := hide2 hn
  have HB1 : Hid (Below w.heap.size w w1) := HBA.out.trans (hn.below.mono HBA.out.size)
  have HX1 := hide2 (HX.out.below hn.below hob)
  have hob1 := HX1.out.lt
  clear hn HX hob
  unfold rptV rptCells
  obtain ⟨nl, hnl⟩ : ∃ nl, r.near.length = nl := ⟨_, rfl⟩
  rw [hnl]
  have HNL := hide2 hnl
  clear hnl
  go_upto_region 3 with (fail)
  obtain ⟨w2, hw2⟩ : ∃ w2, w2 = w1.alloc (.cells (rptCells r (.slice na nl ncap)).toArray 64) := ⟨_, rfl⟩
  have hw2' := hw2
  simp only [rptCells] at hw2'
  rw [← hw2']
  have hb2 : Below w1.heap.size w1 w2 := by rw [hw2]; exact (Below.refl _ _).alloc (Nat.le_refl _) _
  have HR2 : Hid (Blk w2 w1.heap.size 64 (rptCells r (.slice na nl ncap))) := by show Blk _ _ _ _; rw [hw2]; exact Blk.alloc _ _ _
  have HX2 := hide2 (HX1.out.below hb2 hob1)
  have HN2 := hide2 (HN.out.later hb2)
  have HB2 : Hid (Below w.heap.size w w2) := HB1.out.trans (hb2.mono HB1.out.size)
  obtain ⟨rb, hrb⟩ : ∃ rb, rb = w1.heap.size := ⟨_, rfl⟩
  rw [← hrb] at HR2 ⊢
  have hrl2 := HR2.out.lt
  have hol2 := HX2.out.lt
  have r0 := HR2.out.cell (j := 0) rfl
  have r1 := HR2.out.cell (j := 1) rfl
  have r2 := HR2.out.cell (j := 2) rfl
  have r3 := HR2.out.cell (j := 3) rfl
  have r4 := HR2.out.cell (j := 4) rfl
  have r5 := HR2.out.cell (j := 5) rfl
  have r6 := HR2.out.cell (j := 6) rfl
  have r7 := HR2.out.cell (j := 7) rfl
  have r8 := HR2.out.cell (j := 8) rfl
  have r9 := HR2.out.cell (j := 9) rfl
  have x2 := HX2.out.cell (j := 2) rfl
  have x5 := HX2.out.cell (j := 5) rfl
  have x6 := HX2.out.cell (j := 6) rfl
  clear hw2 hw2' hb2 hrb HX1 HN
  obtain ⟨J, hJ, hJw⟩ := HT.out.mem
  have HJ := hide2 hJ
  have HJW := hide2 hJw
  clear hJ hJw
  go_wp2_with fail
  refine (knames_yes r (.slice na nl ncap) (x.s, x.site, x.gone) J w2 (by rw [← HNL.out]; exact HN2.out.row) HT.out.two HJ.out HJW.out).mono ?_
  rintro e3 w3 ⟨rfl, hb3⟩
  have HB3 : Hid (Below w.heap.size w w3) := HB2.out.trans (hb3.mono HB2.out.size)
  have HR3 := hide2 (HR2.out.below hb3 hrl2)
  have HX3 := hide2 (HX2.out.below hb3 hol2)
  clear hb3 r0 r1 r2 r3 r4 r5 r6 r7 r8 r9 x2 x5 x6 HR2 HX2
  have r0 := HR3.out.cell (j := 0) rfl
  have r1 := HR3.out.cell (j := 1) rfl
  have r2 := HR3.out.cell (j := 2) rfl
  have r5 := HR3.out.cell (j := 5) rfl
  have r6 := HR3.out.cell (j := 6) rfl
  have x0 := HX3.out.cell (j := 0) rfl
  have x1 := HX3.out.cell (j := 1) rfl
  rw [HT.out.err] at r0
  rw [HT.out.addr] at r1
  rw [HT.out.want] at r2
  rw [HT.out.cls] at r5
  rw [HT.out.slot] at r6
  have hq' : q % 72057594037927936 = a := HQ.out
  have hp' : x.p / 72057594037927936 = t := HP.out
  have hrl3 := HR3.out.lt
  have hol3 := HX3.out.lt
  go_wp2
  go_ret
  exact ⟨by simp, HB3.out⟩
end Go.Proofs.Ytjikemhmnkckcaa
