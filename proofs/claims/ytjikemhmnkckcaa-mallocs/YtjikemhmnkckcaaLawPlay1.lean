import Derived.Test.YtjikemhmnkckcaaLawStep4
namespace Go.Proofs.Ytjikemhmnkckcaa
open Go.RowKit

/-- the kinds that are played -/
def kindAt (n : Nat) : Int := if n = 0 then 1 else if n = 1 then 2 else 10
def isKind (k : Int) : Bool := k == 1 || k == 2 || k == 10
theorem isKind_at (n : Nat) : isKind (kindAt n) = true := by unfold kindAt; split <;> (try split) <;> rfl
theorem isKind_no (k : Int) (h : ∀ m, m < 3 → kindAt m ≠ k) : isKind k = false := by
  have h0 := h 0 (by omega); have h1 := h 1 (by omega); have h2 := h 2 (by omega)
  simp [kindAt] at h0 h1 h2
  simp [isKind]; omega
theorem isKind_of {k : Int} (h : isKind k = true) : k = 1 ∨ k = 2 ∨ k = 10 := by simpa [isKind, or_assoc] using h

set_option maxRecDepth 100000 in
set_option maxHeartbeats 800000 in
theorem in_any (k : Int) (kb : Nat) (w : World) (h : ∀ m, m < 3 → w.cell? ⟨kb, m, none⟩ = some (.int .i64 (kindAt m))) :
    Calls Try.prog 50 #[.int .i64 k, .slice (some ⟨kb, 0, none⟩) 3 3] w fun e w' => e = .returned (.bool (isKind k)) ∧ Below w.heap.size w w' := by
  have HK := hide2 h
  clear h
  have hkb : kb < w.heap.size := World.block_lt_of_cell? w _ (HK.out 0 (by omega))
  go_enter Try.func50, Try.ntmps50
  go_wp2
  go_loopw [5] (fun i wr => ∃ n : Nat, n ≤ 3 ∧ i = .int .i64 (n : Int) ∧ Below w.heap.size w wr ∧ ∀ m, m < n → kindAt m ≠ k) (fun i _ => (3 - intOf i).toNat)
  case atStart => exact ⟨0, by omega, rfl, Below.refl _ _, fun m hm => absurd hm (by omega)⟩
  case round =>
    obtain ⟨n, hn, rfl, hb, hall⟩ := hrel
    have HA := hide2 hall
    clear hall
    by_cases hlt : n < 3
    · have hl : (n : Int) < 3 := by omega
      have h0 : (0 : Int) ≤ (n : Int) := by omega
      have c := (hb.cell (p := ⟨kb, n, none⟩) hkb).trans (HK.out n hlt)
      by_cases hk : kindAt n = k
      · have hk2 : (kindAt n == k) = true := by simp [hk]
        have HR : Hid (isKind k = true) := by rw [← hk]; exact isKind_at n
        generalize kindAt n = y at *
        clear hk
        go_wp2
        go_ret
        exact ⟨by rw [HR.out]; rfl, hb⟩
      · have hk2 : (kindAt n == k) = false := by rw [beq_eq_false_iff_ne]; exact hk
        have HNE : Hid (kindAt n ≠ k) := hk
        have HNN : Hid (∀ m, m < n + 1 → kindAt m ≠ k) := fun m hm => by
          by_cases e : m = n
          · rw [e]; exact HNE.out
          · exact HA.out m (by omega)
        clear HNE
        generalize kindAt n = y at *
        clear hk
        go_wp2
        go_roundw
        case rel => exact ⟨n + 1, by omega, rfl, hb, HNN.out⟩
        case measure => simp [intOf]; omega
    · have hl : ¬ (n : Int) < 3 := by omega
      have HR : Hid (isKind k = false) := isKind_no k fun m hm => HA.out m (by omega)
      go_wp2
      go_ret
      exact ⟨by rw [HR.out]; rfl, hb⟩
end Go.Proofs.Ytjikemhmnkckcaa
