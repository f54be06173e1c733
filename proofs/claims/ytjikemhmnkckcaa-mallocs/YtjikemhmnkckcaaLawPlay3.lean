import Derived.Test.YtjikemhmnkckcaaLawPlay2
namespace Go.Proofs.Ytjikemhmnkckcaa
open Go.RowKit

theorem plays_any (st rest : Int) (a : Option Addr) (cap : Nat) (cls : List (Int × Int)) (sa : Option Addr) (slen scap : Nat) (v : Nat → Nat → Int) (kb : Nat) (w : World) (h : CRow w a cap cls) (hreach : cls.length * 16 ≤ 140737488351232)
    (hs : SRow w sa slen scap v) (hsr : slen * 72 ≤ 140737488351232) (hk : ∀ m, m < 3 → w.cell? ⟨kb, m, none⟩ = some (.int .i64 (kindAt m))) :
    Calls Try.prog 21 #[.agg #[.int .i64 st, .int .i64 rest, .slice a cls.length cap], .slice sa slen scap, .slice (some ⟨kb, 0, none⟩) 3 3, .bool false] w fun e w' => e = .returned (.bool true) ∧ Below w.heap.size w w' := by
  cases hv : Cf.validB st rest cls
  · exact plays_no st rest a cap cls _ _ w h hreach hv
  · exact plays_yes st rest a cap cls sa slen scap v kb w h hreach (Cf.valid_of hv) hs hsr hk

set_option maxRecDepth 100000 in
set_option maxHeartbeats 800000 in
theorem mallocs_any (st rest : Int) (a : Option Addr) (cap : Nat) (cls : List (Int × Int)) (sa : Option Addr) (slen scap : Nat) (v : Nat → Nat → Int) (w : World) (h : CRow w a cap cls) (hreach : cls.length * 16 ≤ 140737488351232)
    (hs : SRow w sa slen scap v) (hsr : slen * 72 ≤ 140737488351232) :
    Calls Try.prog 5 #[.agg #[.int .i64 st, .int .i64 rest, .slice a cls.length cap], .slice sa slen scap] w fun e w' => e = .returned (.bool true) ∧ Below w.heap.size w w' := by
  have HC := hide2 h
  have HS := hide2 hs
  clear h hs
  go_enter Try.func5, Try.ntmps5
  go_wp2_with fail
  obtain ⟨wb, hwb⟩ : ∃ wb, wb = (w.alloc (.cells #[.int .i64 st, .int .i64 rest, .slice a cls.length cap] 24)).alloc (.cells #[.int .i64 1, .int .i64 2, .int .i64 10] 3) := ⟨_, rfl⟩
  rw [← hwb]
  have hb : Below w.heap.size w wb := by rw [hwb]; exact ((Below.refl _ _).alloc (Nat.le_refl _) _).alloc (by simp) _
  have HK : Hid (∀ m, m < 3 → wb.cell? ⟨w.heap.size + 1, m, none⟩ = some (.int .i64 (kindAt m))) := by
    have hB : Blk wb (w.heap.size + 1) 3 [.int .i64 1, .int .i64 2, .int .i64 10] := by
      rw [hwb]
      have := Blk.alloc (w.alloc (.cells #[.int .i64 st, .int .i64 rest, .slice a cls.length cap] 24)) 3 [.int .i64 1, .int .i64 2, .int .i64 10]
      rw [World.size_alloc] at this
      exact this
    intro m hm
    match m, hm with
    | 0, _ => exact hB.cell (j := 0) rfl
    | 1, _ => exact hB.cell (j := 1) rfl
    | 2, _ => exact hB.cell (j := 2) rfl
  clear hwb
  refine (plays_any st rest a cap cls sa slen scap v _ wb (HC.out.below hb) hreach (HS.out.below hb) hsr HK.out).mono ?_
  rintro e w1 ⟨rfl, hb1⟩
  go_wp2
  go_ret
  exact ⟨rfl, hb.trans (hb1.mono hb.size)⟩
end Go.Proofs.Ytjikemhmnkckcaa
