import Derived.Test.YtjikemhmnkckcabGreatJ8
namespace Go.Proofs.YtjikemhmnkckcabGreat
open Go.RowKit
def oSt (d : ByteArray) : Int := if imgB d = true then byteAt d 2 else 0
def oRest (d : ByteArray) : Int := if imgB d = true then byteAt d 3 else 0
def oCls (d : ByteArray) : List (Int × Int) := if imgB d = true then pCls d else []
def oData (d : ByteArray) : ByteArray := if imgB d = true then pData d else ⟨#[]⟩
def oCode (d : ByteArray) : List Ins := if imgB d = true then pCode d else []
def oErr (d : ByteArray) : Int := if imgB d = true then 0 else 10
theorem o_yes {d : ByteArray} (h : imgB d = true) : oSt d = byteAt d 2 ∧ oRest d = byteAt d 3 ∧ oCls d = pCls d ∧ oData d = pData d ∧ oCode d = pCode d ∧ oErr d = 0 := by simp [oSt, oRest, oCls, oData, oCode, oErr, h]
theorem o_no {d : ByteArray} (h : imgB d = false) : oSt d = 0 ∧ oRest d = 0 ∧ oCls d = [] ∧ oData d = ⟨#[]⟩ ∧ oCode d = [] ∧ oErr d = 10 := by simp [oSt, oRest, oCls, oData, oCode, oErr, h]
def zProg : List Value := [.int .i64 0, .int .i64 0, .slice none 0 0, .string ⟨#[]⟩, .slice none 0 0]
theorem pCls_take (d : ByteArray) (m : Nat) (h : m < pN d) : (pCls d).take (m + 1) = (pCls d).take m ++ [(byteAt d (5 + 2 * m), byteAt d (6 + 2 * m))] := by
 rw [List.take_add_one];simp [pCls, h]
theorem pCode_take (d : ByteArray) (m : Nat) (h : m < pL d) : (pCode d).take (m + 1) = (pCode d).take m ++ [pIns d m] := by
 rw [List.take_add_one];simp [pCode, h]
theorem crow_of {w : World} {a : Option Addr} {cap : Nat} {cls : List (Int × Int)} (h : w.ownsRow 0 84 2 (.slice a cls.length cap) cls.length (cls.flatMap clsCells)) : CRow w a cap cls := by
 obtain ⟨a', cap', e, hc⟩ := CRow.of_row h;injection e with e1 e2 e3;subst e1 e3;exact hc
theorem irow_of {w : World} {a : Option Addr} {cap : Nat} {code : List Ins} (h : w.ownsRow 0 60 4 (.slice a code.length cap) code.length (code.flatMap insCells)) : IRow w a cap code := by
 obtain ⟨a', cap', e, hc⟩ := IRow.of_row h;injection e with e1 e2 e3;subst e1 e3;exact hc
theorem row_set5 {w : World} {q : Nat} {e : TypeId} {m : Nat} {v : Value} {n : Nat} {xs : List Value} (h : w.ownsRow 0 e m v n xs) (hq : ∀ g, v.ownBlock = some g → g ≠ q) (v0 v1 v2 v3 v4 : Value) :
 (((((w.setCell ⟨q, 0, none⟩ v0).setCell ⟨q, 1, none⟩ v1).setCell ⟨q, 2, none⟩ v2).setCell ⟨q, 3, none⟩ v3).setCell ⟨q, 4, none⟩ v4).ownsRow 0 e m v n xs := by
 refine row_kept h (fun g hg => ?_);have hn := hq g hg;rw [Below.heap_setCell _ _ _ g hn, Below.heap_setCell _ _ _ g hn, Below.heap_setCell _ _ _ g hn, Below.heap_setCell _ _ _ g hn, Below.heap_setCell _ _ _ g hn]
theorem below_set5 {w w1 : World} (h : Below w.heap.size w w1) (v0 v1 v2 v3 v4 : Value) : Below w.heap.size w (((((w1.setCell ⟨w.heap.size, 0, none⟩ v0).setCell ⟨w.heap.size, 1, none⟩ v1).setCell ⟨w.heap.size, 2, none⟩ v2).setCell ⟨w.heap.size, 3, none⟩ v3).setCell ⟨w.heap.size, 4, none⟩ v4) :=
 ((((h.setCell (Nat.le_refl _) _).setCell (Nat.le_refl _) _).setCell (Nat.le_refl _) _).setCell (Nat.le_refl _) _).setCell (Nat.le_refl _) _
end Go.Proofs.YtjikemhmnkckcabGreat
namespace Go.Proofs.YtjikemhmnkckcabGreat
open Go.RowKit
attribute [local go_sem ↓] Go.wp_at_zero Go.wp_at_succ
theorem Blk.kept {w w' : World} {S : Nat → Prop} {b : Nat} {t : TypeId} {xs : List Value} (h : Blk w b t xs) (hk : Kept w w' S) (hs : ¬ S b) : Blk w' b t xs := (hk.block b h.lt hs).trans h
end Go.Proofs.YtjikemhmnkckcabGreat
