import Derived.Test.YtjikemhmnkckcaaJ39
import Derived.Test.YtjikemhmnkckcaaJ40
import Derived.Test.YtjikemhmnkckcaaJ41
import Derived.Test.YtjikemhmnkckcaaJ42
import Derived.Test.YtjikemhmnkckcaaJ45
import Derived.Test.YtjikemhmnkckcaaJ38
/- The book's script, played. -/
namespace Go.Proofs.Ytjikemhmnkckcaa
open Go.RowKit

/-- a row of steps in memory -/
structure TRow (w : World) (a : Option Addr) (n c : Nat) (u : Nat → Nat → Int) : Prop where
  len : n ≤ c
  cap : c ≤ maxLen
  cells : 0 < n → ∃ g off, a = some ⟨g, off, none⟩ ∧ g < w.heap.size ∧ ∀ i, i < n → ∀ j, j < 4 → w.cell? ⟨g, off + i * 4 + j, none⟩ = some (.int .i64 (u i j))
  bd : ∀ i, i < n → ∀ j, j < 4 → -9223372036854775808 ≤ u i j ∧ u i j ≤ 9223372036854775807

theorem mOut_first {st rest : Int} {cls : List (Int × Int)} (ho : ROk ⟨st, rest, cls, [], []⟩) : (mOut ⟨st, rest, cls, [], []⟩ 1 0).2 = 0 := by
  have hv : Cf.Valid st rest cls := ho.conf
  have h0 := hv.n0
  have hc : Ref.cls_ cls 1 = 0 := by
    unfold Ref.cls_
    obtain ⟨n, hn⟩ : ∃ n, cls.length = n + 1 := ⟨cls.length - 1, by omega⟩
    rw [hn]
    have := hv.g0 0 h0
    show (if 16 * Cf.gr cls 0 < 1 then _ else 0) = 0
    rw [if_neg (by omega)]
  rcases mOut_cases ⟨st, rest, cls, [], []⟩ ho 1 0 with ⟨h, _⟩ | ⟨k, _, hk, _, hf, _⟩ | ⟨k, s, _, _, _, _, _, _, hm⟩
  · rcases h with h | h
    · exact absurd h (by decide)
    · change Ref.cls_ cls 1 = cls.length at h; omega
  · change Ref.cls_ cls 1 = k at hk
    obtain rfl : k = 0 := by omega
    have hs := hv.s0 0 h0
    have : Ref.first [] rest cls 0 = ((0 : Nat) : Int) := Cf.firstFrom_one _ 0 _ 0 (Nat.le_refl _) (by omega) rfl (fun j h1 h2 => by omega)
    change Ref.first [] rest cls 0 < 0 at hf
    omega
  · rw [hm]

/-- one step, of whatever kind -/
theorem kstep_any (w0 : World) (pb n : Nat) (o0 o1 o2 o3 : Int) (ex : Bool) (w : World) (h : KIn w0 w pb n) (hn : n < 2000000) (b10 : -9223372036854775808 ≤ o1) (b11 : o1 ≤ 9223372036854775807) (b20 : -9223372036854775808 ≤ o2) (b21 : o2 ≤ 9223372036854775807) (b30 : -9223372036854775808 ≤ o3) (b31 : o3 ≤ 9223372036854775807) :
    Calls Try.prog 55 #[.pointer (some ⟨pb, 0, none⟩), .agg #[.int .i64 o0, .int .i64 o1, .int .i64 o2, .int .i64 o3], .bool ex] w fun e w' => e = .returned (.bool true) ∧ KIn w0 w' pb (n + 1) := by
  by_cases h1 : o0 = 1
  · subst h1; exact kstep_malloc w0 pb n o1 o2 o3 ex w h hn b10 b11 b20 b21 b30 b31
  by_cases h2 : o0 = 2
  · subst h2; exact kstep_free w0 pb n o1 o2 o3 ex w h hn b10 b11 b20 b21 b30 b31
  by_cases h3 : o0 = 3
  · subst h3; exact kstep_write w0 pb n o1 o2 o3 ex w h hn b10 b11 b20 b21 b30 b31
  by_cases h4 : o0 = 4
  · subst h4; exact kstep_realloc w0 pb n o1 o2 o3 ex w h hn b10 b11 b20 b21 b30 b31
  exact kstep_other w0 pb n o0 o1 o2 o3 ex w h hn b10 b11 b20 b21 b30 b31 (by simpa using h1) (by simpa using h2) (by simpa using h3) (by simpa using h4)

set_option maxRecDepth 100000 in
set_option maxHeartbeats 3200000 in
theorem kplays_any (w0 : World) (pb : Nat) (ta : Option Addr) (tlen tcap : Nat) (u : Nat → Nat → Int) (ex : Bool) (w : World) (h : KNew w0 w pb) (hs : TRow w0 ta tlen tcap u) (hl : tlen ≤ 1048576) :
    Calls Try.prog 23 #[.pointer (some ⟨pb, 0, none⟩), .slice ta tlen tcap, .bool ex] w fun e w' => e = .returned (.bool true) ∧ KIn w0 w' pb (tlen + 1) := by
  obtain ⟨ph, gc, bb, G, vc, st, rest, cls, hK, hok, hbl, hft⟩ := h
  have HM0 : Hid ((mOut ⟨st, rest, cls, [], []⟩ 1 0).2 = 0) := mOut_first hok.simb.sim.rok
  have HS := hide2 hs
  have HFT := hide2 hft
  have hmax := hs.cap
  have hcap := hs.len
  unfold maxLen at hmax
  have HK := hide2 hK
  have hpb := hK.blk.lt
  have c6 := hK.blk.cell (j := 6) rfl
  have f6 := hK.blk.frozen 6
  have HBL := hide2 hbl
  have HOK1 := hide2 (hok.at_now 1)
  clear hok hbl hft hK hs
  go_enter Try.func23, Try.ntmps23
  go_wp2_with fail
  obtain ⟨w1, hw1⟩ : ∃ w1, w1 = w.setCell ⟨pb, 6, none⟩ (.int .i64 1) := ⟨_, rfl⟩
  rw [← hw1]
  have HK1 : Hid (KRep w1 pb ph gc bb G vc (.slice none 0 0) (.slice none 0 0) ⟨st, rest, cls, [], [], 1⟩) := by
    show KRep _ _ _ _ _ _ _ _ _ _
    rw [hw1]
    exact HK.out.at_now 1
  have HB1 : Hid (Below w0.heap.size w0 w1) := by
    show Below _ _ _
    rw [hw1]
    have hp0 := HFT.out pb (.inl rfl)
    exact HBL.out.trans ⟨rfl, rfl, rfl, by rw [World.size_setCell]; exact Nat.le_refl _, fun k hk => Below.heap_setCell w _ _ k (by show k ≠ pb; omega)⟩
  have hp1 : pb < w1.heap.size := by rw [hw1, World.size_setCell]; exact hpb
  have c3 : w1.cell? ⟨pb, 3, none⟩ = some (.pointer (some ⟨ph, 0, none⟩)) := HK1.out.blk.cell (j := 3) rfl
  have d6 : w1.cell? ⟨pb, 6, none⟩ = some (.int .i64 1) := HK1.out.blk.cell (j := 6) rfl
  have HGP : Hid (¬ GFoot ph gc bb G pb) := fun hx => by
    obtain ⟨col, hs⟩ := HK1.out.sep
    have := hs.g pb hx
    rw [hs.pb] at this; omega
  clear hw1 c6 f6 HK
  go_region_held3 (fun w' => w'.cell? ⟨pb, 3, none⟩ = some (.pointer (some ⟨ph, 0, none⟩)) ∧ w'.cell? ⟨pb, 6, none⟩ = some (.int .i64 1)) (go_keep)
    (first | (go_at_call 29; refine (gmalloc_all ph gc bb G ⟨st, rest, cls, [], []⟩ 1 0 1 w1.drew (HK1.out.heap.kept (fun _ _ => rfl)) HOK1.out.simb.sim).mono ?_; rintro e w2 ⟨rfl, hG2, hk2⟩; have HG2 := hide2 hG2; have HKE := hide2 hk2; have c3' : w2.cell? ⟨pb, 3, none⟩ = some (.pointer (some ⟨ph, 0, none⟩)) := ((World.cell?_of_block (w := w1.drew) (hk2.block pb hp1 HGP.out)).trans c3); have c6' : w2.cell? ⟨pb, 6, none⟩ = some (.int .i64 1) := ((World.cell?_of_block (w := w1.drew) (hk2.block pb hp1 HGP.out)).trans d6); clear hG2 hk2))
  have HKE1 : Hid (Kept w1 w2 (GFoot ph gc bb G)) := ⟨HKE.out.os, HKE.out.tape, HKE.out.output, HKE.out.size, HKE.out.block⟩
  have HK2 := hide2 (HK1.out.goes HG2.out (mG_foot HOK1.out.simb.sim 1 0 1 ph gc bb) HKE1.out)
  clear c3 d6 c3' c6'
  go_wp2_with fail
  refine (kcame_any pb ph gc bb G (mG G ⟨st, rest, cls, [], []⟩ 1 0 1) ⟨st, rest, cls, [], []⟩ vc (.slice none 0 0) (.slice none 0 0) ⟨st, rest, cls, [], [], 1⟩ 1 0 w2 HK2.out HOK1.out (by show 0 ≤ _; omega)).mono ?_
  rintro e w3 ⟨rfl, hres⟩
  have HRES := hide2 hres
  have HFIN : Hid (KIn w0 w3 pb 1) := by
    have hsz1 := HB1.out.size
    have hb2 : Below w0.heap.size w0 w2 := HB1.out.trans (HKE1.out.to_below HB1.out.size (fun b hb => HFT.out b (.inr (.inr (.inl hb)))))
    have hgf := mG_foot HOK1.out.simb.sim 1 0 1 ph gc bb
    rcases HRES.out with ⟨he, rfl⟩ | ⟨vL', wb, k, s, h1, hk, hkl, hf, hs, hz, hm, hK3, hk3, hn3, hwb⟩
    · exact absurd HM0.out he
    · have hb3 : Below w0.heap.size w0 w3 := hb2.trans (hk3.to_below hb2.size (fun b hb => by
        rcases hb with hb | hb
        · exact HFT.out b (.inl hb)
        · exact HFT.out b (.inr (.inr (.inr (.inl hb))))))
      have hs2 := hb2.size
      refine ⟨ph, gc, bb, _, _, vc, vL', _, _, hK3, HOK1.out.malloc 1 0 1 1 rfl wb k s h1 hk hkl hf hs hz hm, by show ([] ++ [_] : List KBlk).length ≤ _; simp, by show ([] : List (Int × Int)).length ≤ _; simp, by show (0 : Int) ≤ 1; omega, by show (1 : Int) ≤ _; omega, hb3, fun b hb => ?_⟩
      rcases hb with hb | hb | hb | hb | hb | ⟨i, hi, hb⟩
      · exact HFT.out b (.inl hb)
      · exact HFT.out b (.inr (.inl hb))
      · exact HFT.out b (.inr (.inr (.inl ((hgf b).1 hb))))
      · rcases hn3 b hb with hb | hb
        · cases hb
        · omega
      · cases hb
      · change i < ([] ++ [_] : List KBlk).length at hi
        change b = (([] ++ [_] : List KBlk).getD i KBlk.no).wb at hb
        obtain rfl : i = 0 := by simp at hi; omega
        rw [hb]
        show w0.heap.size ≤ wb
        omega
  clear HRES hres
  rw [HM0.out]
  go_wp2_with fail
  clear HK1 HK2 HKE HKE1 HG2 HGP HB1 HOK1 HM0 HFT HBL
  go_loopw [10] (fun i wr => ∃ n : Nat, n ≤ tlen ∧ i = .int .i64 (n : Int) ∧ KIn w0 wr pb (n + 1)) (fun i _ => ((tlen : Int) - intOf i).toNat)
  case atStart => exact ⟨0, by omega, rfl, HFIN.out⟩
  case round =>
    obtain ⟨n, hn, rfl, hT⟩ := hrel
    have HT := hide2 hT
    clear hT
    by_cases hlt : n < tlen
    · have hl2 : (n : Int) < (tlen : Int) := by omega
      have h0 : (0 : Int) ≤ (n : Int) := by omega
      obtain ⟨g, off, hsa, hgl, hcell⟩ := HS.out.cells (by omega)
      subst hsa
      have HBE : Hid (Below w0.heap.size w0 wr) := by
        obtain ⟨_, _, _, _, _, _, _, _, _, _, _, _, _, _, _, hb, _⟩ := HT.out
        exact hb
      have e0 : wr.cell? ⟨g, off + n * 4, none⟩ = some (.int .i64 (u n 0)) := (HBE.out.cell (p := ⟨g, off + n * 4, none⟩) hgl).trans (hcell n hlt 0 (by omega))
      have e1 := (HBE.out.cell (p := ⟨g, off + n * 4 + 1, none⟩) hgl).trans (hcell n hlt 1 (by omega))
      have e2 := (HBE.out.cell (p := ⟨g, off + n * 4 + 2, none⟩) hgl).trans (hcell n hlt 2 (by omega))
      have e3 := (HBE.out.cell (p := ⟨g, off + n * 4 + 3, none⟩) hgl).trans (hcell n hlt 3 (by omega))
      have B1 := HS.out.bd n hlt 1 (by omega)
      have B2 := HS.out.bd n hlt 2 (by omega)
      have B3 := HS.out.bd n hlt 3 (by omega)
      clear hcell
      generalize u n 0 = o0 at *
      generalize u n 1 = o1 at *
      generalize u n 2 = o2 at *
      generalize u n 3 = o3 at *
      have HB := hide2 (And.intro B1 (And.intro B2 B3))
      clear B1 B2 B3
      go_wp2_with fail
      refine (kstep_any w0 pb (n + 1) o0 o1 o2 o3 ex wr HT.out (by omega) HB.out.1.1 HB.out.1.2 HB.out.2.1.1 HB.out.2.1.2 HB.out.2.2.1 HB.out.2.2.2).mono ?_
      rintro e w4 ⟨rfl, hi⟩
      have HI := hide2 hi
      clear hi e0 e1 e2 e3
      go_wp2
      go_roundw
      case rel => exact ⟨n + 1, by omega, by go_num, HI.out⟩
      case measure => simp [intOf]; omega
    · obtain rfl : n = tlen := by omega
      go_wp2
      go_ret
      exact ⟨rfl, HT.out⟩
end Go.Proofs.Ytjikemhmnkckcaa
/- What a step of the book comes to: heap and book behind it. -/
namespace Go.Proofs.Ytjikemhmnkckcaa
open Go.RowKit

def KSt.on (B : KSt) : KSt := ⟨B.st, B.rest, B.cls, B.L, B.F, B.now + 1⟩
inductive KStep (o0 o1 o2 o3 : Int) (R : RSt) (B : KSt) : RSt → KSt → Prop
  | none (h : o0 ≠ 1) (h0 : B.L.length = 0) : KStep o0 o1 o2 o3 R B R B.on
  | dead (h : o0 ≠ 1) (i : Nat) (hi : kpick o1 (B.L.length : Int) = (i : Int)) (hl : i < B.L.length) (hd : (B.L.getD i KBlk.no).live = false) : KStep o0 o1 o2 o3 R B R B.on
  | other (h : o0 ≠ 1 ∧ o0 ≠ 2 ∧ o0 ≠ 3 ∧ o0 ≠ 4) : KStep o0 o1 o2 o3 R B R B.on
  | full (h : o0 = 1) (he : (mOut R o2 o3).2 ≠ 0) : KStep o0 o1 o2 o3 R B R B.on
  | gives (h : o0 = 1) (wb k s : Nat) (hk : Ref.cls_ R.cls o2 = k) (hf : Ref.first R.log R.rest R.cls k = (s : Int)) (he : (mOut R o2 o3).2 = 0) : KStep o0 o1 o2 o3 R B (mR R o2 o3 (B.now + 1)) ⟨B.st, B.rest, B.cls, B.L ++ [⟨(Ref.tagOf R.log k s o3 : Int) * 72057594037927936 + Cf.begin_ R.st R.cls k s, k, s, List.replicate (16 * Ref.gsz o2).toNat 0, wb, true, B.now + 1, 0⟩], B.F, B.now + 1⟩
  | frees (h : o0 = 2) (i : Nat) (hi : kpick o1 (B.L.length : Int) = (i : Int)) (hl : i < B.L.length) (hd : (B.L.getD i KBlk.no).live = true) : KStep o0 o1 o2 o3 R B (fR R (B.L.getD i KBlk.no).p (B.now + 1)) (kleft B.on i)
  | writes (h : o0 = 3) (i j : Nat) (hi : kpick o1 (B.L.length : Int) = (i : Int)) (hl : i < B.L.length) (hd : (B.L.getD i KBlk.no).live = true) (hj : kpick o2 ((B.L.getD i KBlk.no).want.length : Int) = (j : Int)) : KStep o0 o1 o2 o3 R B (R.store ((B.L.getD i KBlk.no).p + j) 1 o3) ⟨B.st, B.rest, B.cls, B.L.set i ((B.L.getD i KBlk.no).withWant ((B.L.getD i KBlk.no).want.set j (o3 % 256))), B.F, B.now + 1⟩
  | refull (h : o0 = 4) (i : Nat) (hi : kpick o1 (B.L.length : Int) = (i : Int)) (hl : i < B.L.length) (hd : (B.L.getD i KBlk.no).live = true) (he : (mOut R o2 o3).2 ≠ 0) : KStep o0 o1 o2 o3 R B R B.on
  | regives (h : o0 = 4) (i : Nat) (hi : kpick o1 (B.L.length : Int) = (i : Int)) (hl : i < B.L.length) (hd : (B.L.getD i KBlk.no).live = true) (wb k s : Nat) (hk : Ref.cls_ R.cls o2 = k) (hf : Ref.first R.log R.rest R.cls k = (s : Int)) (he : (mOut R o2 o3).2 = 0) :
      KStep o0 o1 o2 o3 R B (R.re (B.L.getD i KBlk.no).p o2 o3 (B.now + 1)) (kgrown B.on i ⟨(Ref.tagOf R.log k s o3 : Int) * 72057594037927936 + Cf.begin_ R.st R.cls k s, k, s, List.replicate (16 * Ref.gsz o2).toNat 0, wb, true, B.now + 1, 0⟩)
/-- What a step makes of what may be. -/
def kNext (T : RSt → KSt → Prop) (o0 o1 o2 o3 : Int) (R' : RSt) (B' : KSt) : Prop := ∃ R B, T R B ∧ KStep o0 o1 o2 o3 R B R' B'
/-- the book after at most n steps, its state one of T's -/
def KInT (T : RSt → KSt → Prop) (w0 w : World) (pb n : Nat) : Prop := ∃ ph gc bb G R vc vL vF B, KRep w pb ph gc bb G vc vL vF B ∧ KOk B G R ∧ T R B ∧ B.L.length ≤ n ∧ B.F.length ≤ n ∧ 0 ≤ B.now ∧ B.now ≤ n ∧ Below w0.heap.size w0 w ∧ ∀ b, KFoot pb ph gc bb G vc vL vF B.L b → w0.heap.size ≤ b
end Go.Proofs.Ytjikemhmnkckcaa
namespace Go.Proofs.Ytjikemhmnkckcaa
open Go.RowKit

set_option maxRecDepth 100000 in
set_option maxHeartbeats 3200000 in
theorem tstep_malloc (T : RSt → KSt → Prop) (w0 : World) (pb n : Nat) (o1 o2 o3 : Int) (ex : Bool) (w : World) (h : KInT T w0 w pb n) (hn : n < 2000000) (b10 : -9223372036854775808 ≤ o1) (b11 : o1 ≤ 9223372036854775807) (b20 : -9223372036854775808 ≤ o2) (b21 : o2 ≤ 9223372036854775807) (b30 : -9223372036854775808 ≤ o3) (b31 : o3 ≤ 9223372036854775807) :
    Calls Try.prog 55 #[.pointer (some ⟨pb, 0, none⟩), .agg #[.int .i64 1, .int .i64 o1, .int .i64 o2, .int .i64 o3], .bool ex] w fun e w' => e = .returned (.bool true) ∧ KInT (kNext T 1 o1 o2 o3) w0 w' pb (n + 1) := by
  obtain ⟨ph, gc, bb, G, R, vc, vL, vF, B, hK, hok, hT, hL, hF, n0, n1, hbl, hft⟩ := h
  have HT := hide2 hT
  clear hT
  have HOK := hide2 hok
  have HBL := hide2 hbl
  have HFT := hide2 hft
  have hv : Cf.Valid B.st B.rest B.cls := by rw [hok.st, hok.rest, hok.cls]; exact hok.simb.sim.rok.conf
  have HV := hide2 hv
  have HK := hide2 hK
  have hpb := hK.blk.lt
  have c6 := hK.blk.cell (j := 6) rfl
  have f6 := hK.blk.frozen 6
  have HB := hide2 (And.intro (And.intro b10 b11) (And.intro (And.intro b20 b21) (And.intro b30 b31)))
  clear hok hbl hft hv hK b10 b11 b20 b21 b30 b31
  go_enter Try.func55, Try.ntmps55
  go_wp2_with fail
  obtain ⟨wa, hwa⟩ : ∃ wa, wa = (w.setCell ⟨pb, 6, none⟩ (.int .i64 (B.now + 1))).alloc (.cells #[.int .i64 1, .int .i64 o1, .int .i64 o2, .int .i64 o3] 103) := ⟨_, rfl⟩
  rw [← hwa]
  have hsa : wa.heap.size = w.heap.size + 1 := by rw [hwa, World.size_alloc, World.size_setCell]
  have HKa : Hid (KRep wa pb ph gc bb G vc vL vF ⟨B.st, B.rest, B.cls, B.L, B.F, B.now + 1⟩) := by
    show KRep _ _ _ _ _ _ _ _ _ _
    rw [hwa]
    exact (HK.out.at_now (B.now + 1)).below ((Below.refl _ _).alloc (Nat.le_refl _) _)
  have HO : Hid (Blk wa w.heap.size 103 [.int .i64 1, .int .i64 o1, .int .i64 o2, .int .i64 o3]) := by
    show Blk _ _ _ _
    rw [hwa]
    have := Blk.alloc (w.setCell ⟨pb, 6, none⟩ (.int .i64 (B.now + 1))) 103 [.int .i64 1, .int .i64 o1, .int .i64 o2, .int .i64 o3]
    rw [World.size_setCell] at this
    exact this
  have HBa : Hid (Below w0.heap.size w0 wa) := by
    show Below _ _ _
    rw [hwa]
    have hp0 := HFT.out pb (.inl rfl)
    have hset : Below w0.heap.size w (w.setCell ⟨pb, 6, none⟩ (.int .i64 (B.now + 1))) := ⟨rfl, rfl, rfl, by rw [World.size_setCell]; exact Nat.le_refl _, fun k hk => Below.heap_setCell w _ _ k (by show k ≠ pb; omega)⟩
    refine (HBL.out.trans hset).alloc ?_ _
    rw [World.size_setCell]; exact HBL.out.size
  have HOK1 := hide2 (HOK.out.at_now (B.now + 1))
  have HEX : Hid (kexpect ⟨B.st, B.rest, B.cls, B.L, B.F, B.now + 1⟩ o2 = (mOut R o2 o3).2) := HOK1.out.expect o2 o3
  have hpa : pb < wa.heap.size := by omega
  have hoa : w.heap.size < wa.heap.size := by omega
  have HFG : Hid (∀ b, GFoot ph gc bb G b → b < w.heap.size) := fun b hb => HK.out.heap.foot_lt hb
  clear hwa c6 f6 HK HOK
  obtain ⟨ob, hobe⟩ : ∃ ob, ob = w.heap.size := ⟨_, rfl⟩
  have HOE := hide2 hobe
  rw [← hobe] at HO hoa ⊢
  clear hobe hsa
  refine (kexpect_any pb ph gc bb G vc vL vF ⟨B.st, B.rest, B.cls, B.L, B.F, B.now + 1⟩ o2 wa HKa.out HV.out (by show B.L.length ≤ _; omega)).mono ?_
  rw [HEX.out]
  rintro e1 w1 ⟨rfl, hb1⟩
  have HK1 := hide2 (HKa.out.below hb1)
  have HO1 := hide2 (HO.out.below hb1 hoa)
  have HB1 := hide2 (HBa.out.trans (hb1.mono HBa.out.size))
  have hp1 : pb < w1.heap.size := Nat.lt_of_lt_of_le hpa hb1.size
  have ho1 : ob < w1.heap.size := Nat.lt_of_lt_of_le hoa hb1.size
  have c3 : w1.cell? ⟨pb, 3, none⟩ = some (.pointer (some ⟨ph, 0, none⟩)) := HK1.out.blk.cell (j := 3) rfl
  have c4 : w1.cell? ⟨pb, 4, none⟩ = some vL := HK1.out.blk.cell (j := 4) rfl
  have c6 : w1.cell? ⟨pb, 6, none⟩ = some (.int .i64 (B.now + 1)) := HK1.out.blk.cell (j := 6) rfl
  have d0 := HO1.out.cell (j := 0) rfl
  have d1 := HO1.out.cell (j := 1) rfl
  have d2 := HO1.out.cell (j := 2) rfl
  have d3 := HO1.out.cell (j := 3) rfl
  clear hb1
  have HGP : Hid (¬ GFoot ph gc bb G pb) := fun hx => by
    obtain ⟨col, hs⟩ := HK1.out.sep
    have := hs.g pb hx
    rw [hs.pb] at this; omega
  have e2 : ((mOut R o2 o3).2 == (mOut R o2 o3).2) = true := by simp
  have HGO : Hid (¬ GFoot ph gc bb G ob) := fun hx => by
    have h1 := HFG.out ob hx
    have h2 := HOE.out
    omega
  go_wp2_with fail
  go_region_held3 (fun w' => w'.cell? ⟨pb, 3, none⟩ = some (.pointer (some ⟨ph, 0, none⟩)) ∧ w'.cell? ⟨pb, 6, none⟩ = some (.int .i64 (B.now + 1)) ∧ w'.cell? ⟨ob, 2, none⟩ = some (.int .i64 o2) ∧ w'.cell? ⟨ob, 3, none⟩ = some (.int .i64 o3)) (go_keep)
    (first | (go_at_call 29; refine (gmalloc_all ph gc bb G R o2 o3 (B.now + 1) w1.drew (HK1.out.heap.kept (fun _ _ => rfl)) HOK1.out.simb.sim).mono ?_; rintro e w2 ⟨rfl, hG2, hk2⟩; have HG2 := hide2 hG2; have HKE := hide2 hk2; have c3' : w2.cell? ⟨pb, 3, none⟩ = some (.pointer (some ⟨ph, 0, none⟩)) := ((World.cell?_of_block (w := w1.drew) (hk2.block pb hp1 HGP.out)).trans c3); have c6' : w2.cell? ⟨pb, 6, none⟩ = some (.int .i64 (B.now + 1)) := ((World.cell?_of_block (w := w1.drew) (hk2.block pb hp1 HGP.out)).trans c6); have d2' : w2.cell? ⟨ob, 2, none⟩ = some (.int .i64 o2) := ((World.cell?_of_block (w := w1.drew) (hk2.block ob ho1 HGO.out)).trans d2); have d3' : w2.cell? ⟨ob, 3, none⟩ = some (.int .i64 o3) := ((World.cell?_of_block (w := w1.drew) (hk2.block ob ho1 HGO.out)).trans d3); clear hG2 hk2))
  have HKE1 : Hid (Kept w1 w2 (GFoot ph gc bb G)) := ⟨HKE.out.os, HKE.out.tape, HKE.out.output, HKE.out.size, HKE.out.block⟩
  have HK2 := hide2 (HK1.out.goes HG2.out (mG_foot HOK1.out.simb.sim o2 o3 (B.now + 1) ph gc bb) HKE1.out)
  clear c3 c4 c6 d0 d1 d2 d3 c3' c6' d3'
  go_wp2_with fail
  refine (kcame_any pb ph gc bb G (mG G R o2 o3 (B.now + 1)) R vc vL vF ⟨B.st, B.rest, B.cls, B.L, B.F, B.now + 1⟩ o2 o3 w2 HK2.out HOK1.out (by show B.L.length ≤ _; omega)).mono ?_
  rintro e w3 ⟨rfl, hres⟩
  have HRES := hide2 hres
  have HFIN : Hid (KInT (kNext T 1 o1 o2 o3) w0 w3 pb (n + 1)) := by
    have hsz1 := HB1.out.size
    have hb2 : Below w0.heap.size w0 w2 := HB1.out.trans (HKE1.out.to_below HB1.out.size (fun b hb => HFT.out b (.inr (.inr (.inl hb)))))
    have hgf := mG_foot HOK1.out.simb.sim o2 o3 (B.now + 1) ph gc bb
    rcases HRES.out with ⟨he, rfl⟩ | ⟨vL', wb, k, s, h1, hk, hkl, hf, hs, hz, hm, hK3, hk3, hn3, hwb⟩
    · refine ⟨ph, gc, bb, _, R, vc, vL, vF, ⟨B.st, B.rest, B.cls, B.L, B.F, B.now + 1⟩, HK2.out, ?_, ⟨R, B, HT.out, .full rfl he⟩, by show B.L.length ≤ _; omega, by show B.F.length ≤ _; omega, by show 0 ≤ B.now + 1; omega, by show B.now + 1 ≤ _; omega, hb2, fun b hb => HFT.out b (KFoot.glt hgf hb)⟩
      have hmg : mG G R o2 o3 (B.now + 1) = G := if_neg he
      rw [hmg]; exact HOK1.out
    · have hb3 : Below w0.heap.size w0 w3 := hb2.trans (hk3.to_below hb2.size (fun b hb => by
        rcases hb with hb | hb
        · exact HFT.out b (.inl hb)
        · exact HFT.out b (.inr (.inr (.inr (.inl hb))))))
      have hs2 := hb2.size
      refine ⟨ph, gc, bb, _, _, vc, vL', vF, _, hK3, HOK1.out.malloc o2 o3 (B.now + 1) (B.now + 1) rfl wb k s h1 hk hkl hf hs hz hm, ⟨R, B, HT.out, .gives rfl wb k s hk hf (by rw [hm])⟩, by show (B.L ++ [_]).length ≤ _; simp; omega, by show B.F.length ≤ _; omega, by show 0 ≤ B.now + 1; omega, by show B.now + 1 ≤ _; omega, hb3, fun b hb => ?_⟩
      rcases hb with hb | hb | hb | hb | hb | ⟨i, hi, hb⟩
      · exact HFT.out b (.inl hb)
      · exact HFT.out b (.inr (.inl hb))
      · exact HFT.out b (.inr (.inr (.inl ((hgf b).1 hb))))
      · rcases hn3 b hb with hb | hb
        · exact HFT.out b (.inr (.inr (.inr (.inl hb))))
        · omega
      · exact HFT.out b (.inr (.inr (.inr (.inr (.inl hb)))))
      · change i < (B.L ++ [_]).length at hi
        change b = ((B.L ++ [_]).getD i KBlk.no).wb at hb
        rw [getD_appL] at hb
        by_cases ei : i = B.L.length
        · rw [if_pos ei] at hb
          rw [hb]
          show w0.heap.size ≤ wb
          omega
        · rw [if_neg ei] at hb
          exact HFT.out b (.inr (.inr (.inr (.inr (.inr ⟨i, by simp at hi; omega, hb⟩)))))
  clear HRES hres d2'
  cases ex
  all_goals
    go_wp2
    go_ret
    exact ⟨rfl, HFIN.out⟩
end Go.Proofs.Ytjikemhmnkckcaa
