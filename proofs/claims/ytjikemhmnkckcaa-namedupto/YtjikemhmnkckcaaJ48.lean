import Derived.Test.YtjikemhmnkckcaaJ47
import Derived.Test.YtjikemhmnkckcaaJ17
namespace Go.Proofs.Ytjikemhmnkckcaa
open Go.RowKit

theorem KIn.bel {w0 w : World} {pb n : Nat} (h : KIn w0 w pb n) : Below w0.heap.size w0 w := by
  obtain ⟨_, _, _, _, _, _, _, _, _, _, _, _, _, _, _, hb, _⟩ := h
  exact hb

theorem TRow.below {w w' : World} {a : Option Addr} {n c : Nat} {u : Nat → Nat → Int} (h : TRow w a n c u) (hb : Below w.heap.size w w') : TRow w' a n c u :=
  ⟨h.len, h.cap, fun h0 => by
    obtain ⟨g, off, ha, hg, hc⟩ := h.cells h0
    exact ⟨g, off, ha, Nat.lt_of_lt_of_le hg hb.size, fun i hi j hj => (hb.cell (p := ⟨g, off + i * 4 + j, none⟩) hg).trans (hc i hi j hj)⟩, h.bd⟩

set_option maxRecDepth 100000 in
set_option maxHeartbeats 1600000 in
theorem rested_any (st rest : Int) (a : Option Addr) (cap : Nat) (cls : List (Int × Int)) (ta : Option Addr) (tlen tcap : Nat) (u : Nat → Nat → Int) (w : World) (h : CRow w a cap cls) (b0 : -9223372036854775808 ≤ st) (b1 : st ≤ 9223372036854775807) (b2 : -9223372036854775808 ≤ rest) (b3 : rest ≤ 9223372036854775807) (hs : TRow w ta tlen tcap u) (hl : tlen ≤ 1048576) :
    Calls Try.prog 7 #[.agg #[.int .i64 st, .int .i64 rest, .slice a cls.length cap], .slice ta tlen tcap] w fun e w' => e = .returned (.bool true) ∧ Below w.heap.size w w' := by
  have HC := hide2 h
  have HS := hide2 hs
  have HBB := hide2 (And.intro (And.intro b0 b1) (And.intro b2 b3))
  clear h hs b0 b1 b2 b3
  go_enter Try.func7, Try.ntmps7
  go_wp2_with fail
  obtain ⟨wa, hwa⟩ : ∃ wa, wa = w.alloc (.cells #[.int .i64 st, .int .i64 rest, .slice a cls.length cap] 24) := ⟨_, rfl⟩
  rw [← hwa]
  have HBA : Hid (Below w.heap.size w wa) := by show Below _ _ _; rw [hwa]; exact (Below.refl _ _).alloc (Nat.le_refl _) _
  clear hwa
  refine (kopen_any st rest a cap cls wa (HC.out.below HBA.out) HBB.out.1.1 HBB.out.1.2 HBB.out.2.1 HBB.out.2.2).mono ?_
  rintro e w1 ⟨pb, rfl, hn⟩
  have HN := hide2 hn
  clear hn
  go_wp2_with fail
  refine (kplays_any wa pb ta tlen tcap u true w1 HN.out (HS.out.below HBA.out) hl).mono ?_
  rintro e w2 ⟨rfl, hi⟩
  have HI := hide2 hi
  clear hi
  go_wp2
  go_ret
  exact ⟨rfl, HBA.out.trans (HI.out.bel.mono HBA.out.size)⟩
end Go.Proofs.Ytjikemhmnkckcaa
/- Apart: every live block stands. -/
namespace Go.Proofs.Ytjikemhmnkckcaa
open Go.RowKit

set_option maxRecDepth 100000 in
set_option maxHeartbeats 3200000 in
theorem apart_any (st rest : Int) (a : Option Addr) (cap : Nat) (cls : List (Int × Int)) (ta : Option Addr) (tlen tcap : Nat) (u : Nat → Nat → Int) (w : World) (h : CRow w a cap cls) (b0 : -9223372036854775808 ≤ st) (b1 : st ≤ 9223372036854775807) (b2 : -9223372036854775808 ≤ rest) (b3 : rest ≤ 9223372036854775807) (hs : TRow w ta tlen tcap u) (hl : tlen ≤ 1048576) :
    Calls Try.prog 9 #[.agg #[.int .i64 st, .int .i64 rest, .slice a cls.length cap], .slice ta tlen tcap] w fun e w' => e = .returned (.bool true) ∧ Below w.heap.size w w' := by
  have HC := hide2 h
  have HS := hide2 hs
  have HBB := hide2 (And.intro (And.intro b0 b1) (And.intro b2 b3))
  clear h hs b0 b1 b2 b3
  go_enter Try.func9, Try.ntmps9
  go_wp2_with fail
  obtain ⟨wa, hwa⟩ : ∃ wa, wa = w.alloc (.cells #[.int .i64 st, .int .i64 rest, .slice a cls.length cap] 24) := ⟨_, rfl⟩
  rw [← hwa]
  have HBA : Hid (Below w.heap.size w wa) := by show Below _ _ _; rw [hwa]; exact (Below.refl _ _).alloc (Nat.le_refl _) _
  clear hwa
  refine (kopen_any st rest a cap cls wa (HC.out.below HBA.out) HBB.out.1.1 HBB.out.1.2 HBB.out.2.1 HBB.out.2.2).mono ?_
  rintro e w1 ⟨pb, rfl, hn⟩
  have HN := hide2 hn
  clear hn
  go_wp2_with fail
  refine (kplays_any wa pb ta tlen tcap u false w1 HN.out (HS.out.below HBA.out) hl).mono ?_
  rintro e w2 ⟨rfl, hi⟩
  have HBL : Hid (Below w.heap.size w w2) := HBA.out.trans (hi.bel.mono HBA.out.size)
  obtain ⟨ph, gc, bb, G, R, vc, vL, vF, B, hK, hok, hL, -, -, -, -, -⟩ := hi
  have HK := hide2 hK
  have HOK := hide2 hok
  have hpb := hK.blk.lt
  have hlen : B.L.length ≤ 1048577 := by omega
  clear HN hK hok hL
  obtain ⟨al, capL, rfl, hcapL, hmaxL, hrow⟩ := row_open HK.out.L
  unfold maxLen at hmaxL
  have HROW := hide2 hrow
  clear hrow
  go_wp2_with fail
  go_loopw [7] (fun i wr => ∃ n : Nat, n ≤ B.L.length ∧ i = .int .i64 (n : Int) ∧ Below w2.heap.size w2 wr) (fun i _ => ((B.L.length : Int) - intOf i).toNat)
  case atStart => exact ⟨0, by omega, rfl, Below.refl _ _⟩
  case round =>
    obtain ⟨n, hn, rfl, hb⟩ := hrel
    have HB := hide2 hb
    have HK1 := hide2 (HK.out.below hb)
    have c4 := HK1.out.blk.cell (j := 4) rfl
    have hp1 : pb < wr.heap.size := HK1.out.blk.lt
    clear hb
    by_cases hlt : n < B.L.length
    · have hl2 : (n : Int) < (B.L.length : Int) := by omega
      have h0 : (0 : Int) ≤ (n : Int) := by omega
      obtain ⟨g, rfl, hgl, hcell, hfrz⟩ := HROW.out (by omega)
      obtain ⟨d0, d1, d2, d3, d4, d5, d6⟩ := kblk_cells hcell n hlt
      have d4' := (HB.out.cell (p := ⟨g, n * 7 + 4, none⟩) hgl).trans d4
      clear d0 d1 d2 d3 d4 d5 d6 hcell hfrz
      cases hlv : (B.L.getD n KBlk.no).live with
      | false =>
        rw [hlv] at d4'
        have HLV := hide2 hlv
        clear hlv
        go_wp2
        go_roundw
        case rel => exact ⟨n + 1, by omega, by go_num, HB.out⟩
        case measure => simp [intOf]; omega
      | true =>
        rw [hlv] at d4'
        have HST : Hid (Stands R (B.L.getD n KBlk.no) ∧ (B.L.getD n KBlk.no).want.length ≤ 128 ∧ 0 ≤ (B.L.getD n KBlk.no).p ∧ (B.L.getD n KBlk.no).p ≤ 2000000000000000000) := by
          obtain ⟨k, s, hkl⟩ := HOK.out.live n hlt hlv
          have hb := hkl.bd HOK.out.simb
          have hp := hkl.p
          exact ⟨hkl.stands HOK.out.simb, hb.2.2.2.2.1, by omega, by omega⟩
        clear hlv
        go_wp2_with fail
        refine (kstands_any pb ph gc bb G R vc _ vF B n wr HK1.out HOK.out.simb hlt HST.out.1 HST.out.2.1 HST.out.2.2.1 HST.out.2.2.2).mono ?_
        rintro e w3 ⟨rfl, hb3⟩
        have HB3 : Hid (Below w2.heap.size w2 w3) := HB.out.trans (hb3.mono HB.out.size)
        clear hb3 c4 d4'
        go_wp2
        go_roundw
        case rel => exact ⟨n + 1, by omega, by go_num, HB3.out⟩
        case measure => simp [intOf]; omega
    · obtain rfl : n = B.L.length := by omega
      go_wp2
      go_ret
      exact ⟨rfl, HBL.out.trans (HB.out.mono HBL.out.size)⟩
end Go.Proofs.Ytjikemhmnkckcaa
/- The program's near: those of a slot and its two neighbours that had a tag last. -/
namespace Go.Proofs.Ytjikemhmnkckcaa
open Go.RowKit

def nearCells (x : Int × Int × Int) : List Value := [.int .i64 x.1, .int .i64 x.2.1, .int .i64 x.2.2]
def nearAt (xs : List GSlot) (j tag : Int) : List (Int × Int × Int) :=
  if 0 ≤ j ∧ j < xs.length ∧ ghad (xs.getD j.toNat GSlot.no) tag = true then [(j, (xs.getD j.toNat GSlot.no).alloc, (xs.getD j.toNat GSlot.no).gone)] else []
def nearTo (xs : List GSlot) (i tag : Int) : Nat → List (Int × Int × Int)
  | 0 => []
  | m + 1 => nearTo xs i tag m ++ nearAt xs (i - 1 + m) tag
def gnear (xs : List GSlot) (i tag : Int) : List (Int × Int × Int) := nearTo xs i tag 3
theorem nearAt_len (xs : List GSlot) (j tag : Int) : (nearAt xs j tag).length ≤ 1 := by unfold nearAt; split <;> simp
theorem nearTo_len (xs : List GSlot) (i tag : Int) (m : Nat) : (nearTo xs i tag m).length ≤ m := by
  induction m with
  | zero => simp [nearTo]
  | succ m ih =>
    have := nearAt_len xs (i - 1 + m) tag
    simp only [nearTo, List.length_append]; omega
theorem info_near : (Try.prog.info? 117).map (fun i => (i.zero, i.size, i.bytes)) = some (some (.agg #[.int .i64 0, .int .i64 0, .int .i64 0]), 3, 24) := by kernel_rfl

/-- a list that grows within a loop -/
structure NearRel (w : World) (l : List (Int × Int × Int)) (v : Value) (wr : World) : Prop where
  below : Below w.heap.size w wr
  row : wr.ownsRow 0 117 3 v l.length (l.flatMap nearCells)
  vlo : ∀ g, v.ownBlock = some g → w.heap.size ≤ g
theorem NearRel.later {w wr w' : World} {l : List (Int × Int × Int)} {v : Value} (h : NearRel w l v wr) (b : Below wr.heap.size wr w') : NearRel w l v w' :=
  ⟨h.below.trans (b.mono h.below.size), row_below h.row b fun _ => row_lt h.row, h.vlo⟩
theorem NearRel.step {w wr : World} {l : List (Int × Int × Int)} {v : Value} (hr : NearRel w l v wr) (x : Int × Int × Int) {cs : Array Value} {t : TypeId} {w2 : World} {gg cap2 : Nat}
    (hown1 : w2.ownsRow 0 117 3 (.slice (some ⟨gg, 0, none⟩) (l.length + 1) cap2) (l.length + 1) (l.flatMap nearCells ++ nearCells x))
    (hgrow : (wr.alloc (.cells cs t)).grownBy w2 v.ownBlock) (hat : v.ownBlock = some gg ∨ gg = wr.heap.size + 1) :
    NearRel w (l ++ [x]) (.slice (some ⟨gg, 0, none⟩) (l.length + 1) cap2) w2 := by
  have hsz := hr.below.size
  refine ⟨?_, ?_, ?_⟩
  · exact (hr.below.alloc (by omega) _).grown hgrow (by rw [World.size_alloc]; omega) (fun k hk => hr.vlo k hk)
  · rw [List.length_append, List.flatMap_append]
    simpa using hown1
  · intro g hg
    simp [Value.ownBlock] at hg
    subst hg
    rcases hat with h | h
    · exact hr.vlo gg h
    · omega

set_option maxRecDepth 100000 in
set_option maxHeartbeats 3200000 in
theorem near_any (cb co sb : Nat) (xs : List GSlot) (i tag : Int) (w : World) (hc : w.cell? ⟨cb, co + 2, none⟩ = some (.slice (some ⟨sb, 0, none⟩) xs.length xs.length)) (hcb : cb < w.heap.size) (hs : Blk w sb 79 (xs.flatMap slotCells)) (hlen : xs.length ≤ 16) (i0 : 0 ≤ i) (i1 : i < xs.length) :
    Calls Try.prog 101 #[.pointer (some ⟨cb, co, none⟩), .int .i64 i, .int .i64 tag] w fun e w' => ∃ v, e = .returned v ∧ NearRel w (gnear xs i tag) v w' := by
  obtain ⟨n0, hn0, hz0, hz1, hz2⟩ := info_parts info_near
  have HS := hide2 hs
  have hsl := hs.lt
  clear hs
  go_enter Try.func101, Try.ntmps101
  go_wp2
  go_loopw [7, 8] (fun l j wr => ∃ m : Nat, m ≤ 3 ∧ j = .int .i64 (i - 1 + (m : Int)) ∧ Hid (NearRel w (nearTo xs i tag m) l wr)) (fun _ j _ => (i + 2 - intOf j).toNat)
  case atStart => exact ⟨0, by omega, by simp, ⟨Below.refl _ _, World.ownsRow_nil _ _ _ _, nofun⟩⟩
  case round =>
    obtain ⟨m, hm, rfl, HR⟩ := hrel
    have hc' := (HR.out.below.cell (p := ⟨cb, co + 2, none⟩) hcb).trans hc
    have hsz := HR.out.below.size
    have HST : Hid (nearTo xs i tag (m + 1) = nearTo xs i tag m ++ nearAt xs (i - 1 + m) tag) := rfl
    by_cases hlt : m < 3
    · have hjl : i - 1 + (m : Int) ≤ i + 1 := by omega
      by_cases hj : i - 1 + (m : Int) < 0
      · have HN : Hid (nearTo xs i tag (m + 1) = nearTo xs i tag m) := by
          show _ = _
          rw [HST.out]; unfold nearAt; rw [if_neg (by omega), List.append_nil]
        go_wp2
        go_roundw
        case rel => exact ⟨m + 1, by omega, by congr 1; omega, by rw [HN.out]; exact HR⟩
        case measure => simp [intOf]; omega
      · by_cases hj2 : (xs.length : Int) ≤ i - 1 + (m : Int)
        · have HN : Hid (nearTo xs i tag (m + 1) = nearTo xs i tag m) := by
            show _ = _
            rw [HST.out]; unfold nearAt; rw [if_neg (by omega), List.append_nil]
          go_wp2
          go_roundw
          case rel => exact ⟨m + 1, by omega, by congr 1; omega, by rw [HN.out]; exact HR⟩
          case measure => simp [intOf]; omega
        · obtain ⟨j, hjn⟩ := Int.eq_ofNat_of_zero_le (show 0 ≤ i - 1 + (m : Int) by omega)
          have hjx : j < xs.length := by omega
          have HA : Hid (nearAt xs (i - 1 + m) tag = if ghad (xs.getD j GSlot.no) tag = true then [((j : Int), (xs.getD j GSlot.no).alloc, (xs.getD j GSlot.no).gone)] else []) := by
            show _ = _
            unfold nearAt
            rw [hjn, Int.toNat_natCast]
            by_cases c : ghad (xs.getD j GSlot.no) tag = true
            · rw [if_pos ⟨by omega, by omega, c⟩, if_pos c]
            · rw [if_neg (fun y => c y.2.2), if_neg c]
          obtain ⟨e0, e1, e2, e3, e4, e5⟩ := slot_cells HS.out j hjx
          have e0' := (HR.out.below.cell (p := ⟨sb, j * 6, none⟩) hsl).trans e0
          have e1' := (HR.out.below.cell (p := ⟨sb, j * 6 + 1, none⟩) hsl).trans e1
          have e2' := (HR.out.below.cell (p := ⟨sb, j * 6 + 2, none⟩) hsl).trans e2
          have e3' := (HR.out.below.cell (p := ⟨sb, j * 6 + 3, none⟩) hsl).trans e3
          have e4' := (HR.out.below.cell (p := ⟨sb, j * 6 + 4, none⟩) hsl).trans e4
          have e5' := (HR.out.below.cell (p := ⟨sb, j * 6 + 5, none⟩) hsl).trans e5
          clear e0 e1 e2 e3 e4 e5
          generalize xs.getD j GSlot.no = x at *
          have HJ := hide2 hjn
          have hjI : (j : Int) < (xs.length : Int) := by omega
          have hji : (j : Int) ≤ i + 1 := by omega
          rw [hjn]
          clear hjn hj hj2 hjl
          go_wp2_with fail
          have hsc : Blk (wr.alloc (.cells #[.int .i64 x.state, .int .i64 x.tag, .int .i64 x.bytes, .int .i64 x.rest, .int .i64 x.alloc, .int .i64 x.gone] 79)) wr.heap.size 79 [.int .i64 x.state, .int .i64 x.tag, .int .i64 x.bytes, .int .i64 x.rest, .int .i64 x.alloc, .int .i64 x.gone] := Blk.alloc wr _ _
          have hba : Below wr.heap.size wr (wr.alloc (.cells #[.int .i64 x.state, .int .i64 x.tag, .int .i64 x.bytes, .int .i64 x.rest, .int .i64 x.alloc, .int .i64 x.gone] 79)) := (Below.refl _ _).alloc (Nat.le_refl _) _
          obtain ⟨ob, hobe⟩ : ∃ ob, ob = wr.heap.size := ⟨_, rfl⟩
          rw [← hobe] at hsc ⊢
          generalize (wr.alloc (.cells #[.int .i64 x.state, .int .i64 x.tag, .int .i64 x.bytes, .int .i64 x.rest, .int .i64 x.alloc, .int .i64 x.gone] 79)) = w4 at *
          have hs4 := hsc.lt
          refine (had_any x tag w4).mono ?_
          cases hz : ghad x tag
          · have HN : Hid (nearTo xs i tag (m + 1) = nearTo xs i tag m) := by
              show _ = _
              rw [HST.out, HA.out, hz, if_neg (by decide), List.append_nil]
            rintro e1 w5 ⟨rfl, hb5⟩
            have HR5 := hide2 ((HR.out.later hba).later hb5)
            clear hb5 hba hsc hobe e0' e1' e2' e3' e4' e5' hz HA
            go_wp2
            go_roundw
            case rel => exact ⟨m + 1, by omega, by have := HJ.out; congr 1; omega, by rw [HN.out]; exact HR5⟩
            case measure => simp [intOf]; omega
          · have HN : Hid (nearTo xs i tag (m + 1) = nearTo xs i tag m ++ [((j : Int), x.alloc, x.gone)]) := by
              show _ = _
              rw [HST.out, HA.out, hz, if_pos rfl]
            rintro e1 w5 ⟨rfl, hb5⟩
            have HR5 := hide2 ((HR.out.later hba).later hb5)
            have q4 := (hb5.cell (p := ⟨ob, 4, none⟩) hs4).trans (hsc.cell (j := 4) rfl)
            have q5 := (hb5.cell (p := ⟨ob, 5, none⟩) hs4).trans (hsc.cell (j := 5) rfl)
            have hob5 : ob < w5.heap.size := Nat.lt_of_lt_of_le hs4 hb5.size
            have hlm := nearTo_len xs i tag m
            have hrow := hide2 HR5.out.row
            clear hb5 hba hsc hobe e0' e1' e2' e3' e4' e5' hz HA
            go_wp2_with (at_builtin; refine wpList_append_lies _ rfl _ _ _ rfl 0 117 n0 _ 3 24 Try.underlying62 hn0 hz0 hz1 hz2 rfl (by omega) u7 (nearTo xs i tag m).length _ rfl (hrow.out.alloc _) ⟨w5.heap.size, 0, none⟩ 1 1 [.int .i64 (j : Int), .int .i64 x.alloc, .int .i64 x.gone] rfl rfl (World.news_of_block (cs := #[.int .i64 (j : Int), .int .i64 x.alloc, .int .i64 x.gone]) (t := 117) (fr := (0, 0)) (heap_alloc_new w5 _)) (by simp [Value.oneCell']) (by omega) (by simp [maxLen]; omega) (by omega) (by simp) (w5.heap.size + 1) (by simp) ?_; intro gg cap2 w7 hown hgrow hat hlt7)
            go_roundw
            case rel => exact ⟨m + 1, by omega, by have := HJ.out; congr 1; omega, by rw [HN.out]; exact HR5.out.step ((j : Int), x.alloc, x.gone) hown hgrow hat⟩
            case measure => simp [intOf]; omega
    · obtain rfl : m = 3 := by omega
      have hji : i + 1 < i - 1 + ((3 : Nat) : Int) := by omega
      go_wp2
      go_ret
      exact ⟨_, rfl, HR.out⟩
end Go.Proofs.Ytjikemhmnkckcaa
