import Derived.Test.YtjikemhmnkckcabGreatJ4
import Derived.Deep.Cut
import Derived.Lib.SmallJoins
namespace Go.Proofs.YtjikemhmnkckcabGreat
open Go.RowKit
def bOne (v : Int) : ByteArray := ⟨#[UInt8.ofNat v.toNat]⟩
def img1 (st rest : Int) (cls : List (Int × Int)) : ByteArray := (⟨#[71, 82]⟩ : ByteArray) ++ bOne st ++ bOne rest ++ bOne cls.length
def img2 (st rest : Int) (cls : List (Int × Int)) : Nat → ByteArray
 | 0 => img1 st rest cls
 | m + 1 => img2 st rest cls m ++ bOne (Cf.gr cls m) ++ bOne (Cf.sl cls m)
theorem bOne_size (v : Int) : (bOne v).size = 1 := rfl
theorem img2_size (st rest : Int) (cls : List (Int × Int)) (m : Nat) : (img2 st rest cls m).size = 5 + 2 * m := by
 induction m with
 | zero => simp [img2, img1, ByteArray.size_append, bOne_size]; rfl
 | succ m ih => simp only [img2, ByteArray.size_append, bOne_size, ih]; omega
def img3 (st rest : Int) (cls : List (Int × Int)) (d : ByteArray) (n : Nat) : ByteArray := img2 st rest cls cls.length ++ bOne d.size ++ d ++ bOne n
def img4 (st rest : Int) (cls : List (Int × Int)) (d : ByteArray) (code : List Ins) : Nat → ByteArray
 | 0 => img3 st rest cls d code.length
 | m + 1 => img4 st rest cls d code m ++ bOne (code.getD m Ins.no).op ++ bOne (code.getD m Ins.no).a ++ bOne (code.getD m Ins.no).b ++ bOne (code.getD m Ins.no).c
theorem img4_size (st rest : Int) (cls : List (Int × Int)) (d : ByteArray) (code : List Ins) (m : Nat) : (img4 st rest cls d code m).size = 7 + 2 * cls.length + d.size + 4 * m := by
 induction m with
 | zero => simp only [img4, img3, ByteArray.size_append, bOne_size, img2_size]; omega
 | succ m ih => simp only [img4, ByteArray.size_append, bOne_size, ih]; omega
theorem codeB_at {code : List Ins} {k m : Nat} (h : codeB code k = true) (hm : m < k) : (code.getD m Ins.no).may code.length = true := by
 induction k with
 | zero => omega
 | succ k ih =>
   simp only [codeB, Bool.and_eq_true] at h
   by_cases e : m = k
   ·rw [e]; exact h.2
   ·exact ih h.1 (by omega)
theorem kind_bd {k v n : Int} (h : kindB k v n = true) (hn : n ≤ 255) : 0 ≤ v ∧ v ≤ 255 := by
 unfold kindB withinB at h
 split at h
 ·simp at h; omega
 ·split at h
  ·simp at h; omega
  ·split at h <;> (simp at h; omega)
theorem may_bd {x : Ins} {n : Int} (h : x.may n = true) (hn : n ≤ 255) : (0 ≤ x.op ∧ x.op ≤ 255) ∧ (0 ≤ x.a ∧ x.a ≤ 255) ∧ (0 ≤ x.b ∧ x.b ≤ 255) ∧ (0 ≤ x.c ∧ x.c ≤ 255) := by
 have ho : ¬ (x.op < 0 ∨ 19 < x.op) := fun y => by
  unfold Ins.may mayB at h;rw [opKinds_none y] at h
  cases h
 have hk : ∃ k1 k2 k3 : Nat, opKinds x.op = [k1, k2, k3] := by
  rcases opKinds_some ho with e | e | e | e | e | e | e <;> exact ⟨_, _, _, e⟩
 obtain ⟨k1, k2, k3, hk⟩ := hk;unfold Ins.may mayB at h;rw [hk] at h;simp only [Bool.and_eq_true] at h;exact ⟨by omega, kind_bd h.1.1 hn, kind_bd h.1.2 hn, kind_bd h.2 hn⟩
theorem run_append_new {P : Program} {m : Nat} (w : World) (base : Nat) (t ty e : TypeId) (i : TypeInfo) (z : Value) (size bytes : Nat) (ht : P.underlying t = some (.slice e)) (hi : P.info? e = some i) (hz : i.zero = some z)
 (hsize : i.size = size) (hby : i.bytes = bytes) (hzs : z.cells.size = size) (hsz : 0 < size)
 (ad0 : Addr) (n cap : Nat) (xs : List Value) (hx0 : xs.length = n * size) (holds : ∀ j u, xs[j]? = some u → w.cell? (ad0.add j) = some u) (hno : cap < n + m)
 (a : Addr) (c : Nat) (news : List Value) (hl : news.length = m * size) (hnews : ∀ j u, news[j]? = some u → w.cell? (a.add j) = some u)
 (h63 : n + m ≤ maxLen) (hbytes : (n + m) * bytes ≤ 140737488355328) (hbase : base ≤ w.heap.size) :
 ∃ cap' w', (Builtin.append_ #[t, t] ty #[.slice (some ad0) n cap, .slice (some a) m c]).run P w = .ok (.slice (some ⟨w.heap.size, 0, none⟩) (n + m) cap') w' ∧ w'.ownsRow base e size (.slice (some ⟨w.heap.size, 0, none⟩) (n + m) cap') (n + m) (xs ++ news) ∧ w.grownBy w' none ∧ w.heap.size < w'.heap.size := by
 subst hsize;subst hby;have hsmall : n + m ≤ 9223372036854775807 := by simp only [maxLen] at h63; omega
 have hlen : (xs ++ news).length = (n + m) * i.size := by rw [List.length_append, hx0, hl, Nat.add_mul]
 have hr := run_append_grow (P := P) w t ty e i z ht hi hz ad0 n cap xs hx0 holds a m c news hl hnews (by omega) (by omega) (growslice_fits (by omega) hbytes);have hge := grownCap_ge w (n + m) cap e;have hcm2 : grownCap w (n + m) cap e ≤ maxLen := grownCap_le_maxLen w (n + m) cap e h63;refine ⟨_, _, hr, ⟨hlen, .inr ⟨w.heap.size, _, _, rfl, hbase, heap_alloc_new w.drew _, hge, hcm2, ?_, ?_⟩⟩, ⟨rfl, rfl, rfl, by simp, fun k hk _ => Below.heap_alloc w.drew _ k hk⟩, by simp⟩
 ·simp only [Array.size_append, List.size_toArray, size_zeroCells, hzs, hx0, hl, ← Nat.add_mul]
  congr 1
  omega
 ·simp only [Array.toList_append, List.append_assoc];rw [← List.append_assoc, ← hlen];exact List.take_left
theorem wpList_append_new {P : Program} (w : World) {ops : Array Oper} {rest : List Oper} {o : Oper} {a : Act} {Q : Exit → Act → World → Prop} (hgd : o.guard = none) (s x : Operand) (t : TypeId)
 (ho : o.op = .call { callee := .builtin .append, args := #[s, x], argTypes := #[t, t] })
 (base : Nat) (e : TypeId) (i : TypeInfo) (z : Value) (size bytes : Nat) (ht : P.underlying t = some (.slice e)) (hi : P.info? e = some i) (hz : i.zero = some z)
 (hsize : i.size = size) (hby : i.bytes = bytes) (hzs : z.cells.size = size) (hsz : 0 < size)
 (ad0 : Addr) (n cap : Nat) (xs : List Value) (hs : a.eval s = .slice (some ad0) n cap) (hx0 : xs.length = n * size) (holds : ∀ j u, xs[j]? = some u → w.cell? (ad0.add j) = some u)
 (ad : Addr) (m c : Nat) (news : List Value) (hx : a.eval x = .slice (some ad) m c) (hno : cap < n + m) (hl : news.length = m * size) (hnews : ∀ j u, news[j]? = some u → w.cell? (ad.add j) = some u)
 (h63 : n + m ≤ maxLen) (hbytes : (n + m) * bytes ≤ 140737488355328) (hbase : base ≤ w.heap.size) (H : Nat) (hH : w.heap.size = H)
 (h : ∀ cap' w', w'.ownsRow base e size (.slice (some ⟨H, 0, none⟩) (n + m) cap') (n + m) (xs ++ news) → w.grownBy w' none → H < w'.heap.size → wpList P ops Q rest (a.put o.dst (.slice (some ⟨H, 0, none⟩) (n + m) cap')) w') : wpList P ops Q (o :: rest) a w := by
 subst hH;refine wpList_plain hgd fun _ hK => ?_
 obtain ⟨cap', w', hr, h2, h3, h4⟩ := run_append_new (P := P) (m := m) w base t o.type e i z size bytes ht hi hz hsize hby hzs hsz ad0 n cap xs hx0 holds hno ad c news hl hnews h63 hbytes hbase;unfold Oper.wp execOp;simp only [ho, resolve, invoke, builtin, Sem.run_bind, Sem.run_pure, Result.andThen_ok, List.map_toArray, List.map_cons, List.map_nil, hs, hx, hr];exact hK _ _ (h cap' w' h2 h3 h4)
def bytesV (b : ByteArray) : List Value := b.data.toList.map fun x => .int .u8 (x.toNat : Int)
theorem bytesV_append (b c : ByteArray) : bytesV (b ++ c) = bytesV b ++ bytesV c := by
 simp [bytesV, ByteArray.data_append]
theorem bytesV_one {v : Int} (v0 : 0 ≤ v) (v1 : v ≤ 255) : bytesV (bOne v) = [.int .u8 v] := by
 have hx : (((UInt8.ofNat v.toNat).toNat : Nat) : Int) = v := by rw [UInt8.toNat_ofNat']; omega
 simp [bytesV, bOne];omega
theorem bytesV_get (b : ByteArray) (j : Nat) (h : j < b.size) : (bytesV b)[j]? = some (.int .u8 (b[j].toNat : Int)) := by
 have : j < b.data.toList.length := by simpa using h
 simp [bytesV, List.getElem?_map, List.getElem?_eq_getElem this];rfl
theorem row_bytes {w : World} {base e : Nat} {g cap : Nat} {b : ByteArray} (h : w.ownsRow base e 1 (.slice (some ⟨g, 0, none⟩) b.size cap) b.size (bytesV b)) : Go.Lib.Bytes w g 0 b := by
 intro i hi;have := h.cells (g := g) rfl i _ (bytesV_get b i hi);have hadd : (⟨g, 0, none⟩ : Addr).add i = ⟨g, 0 + i, none⟩ := by unfold Addr.add; split <;> simp_all
 rw [hadd] at this;exact this
def byteAt (d : ByteArray) (k : Nat) : Int := match d.data.toList[k]? with | some x => (x.toNat : Int) | none => 0
theorem byteAt_lt {d : ByteArray} {k : Nat} (h : k < d.size) : byteAt d k = (d[k].toNat : Int) := by
 have : k < d.data.toList.length := by simpa using h
 unfold byteAt;rw [List.getElem?_eq_getElem this];rfl
theorem byteAt_ge {d : ByteArray} {k : Nat} (h : d.size ≤ k) : byteAt d k = 0 := by
 have : d.data.toList.length ≤ k := by simpa using h
 unfold byteAt;rw [List.getElem?_eq_none this]
theorem byteAt_bd (d : ByteArray) (k : Nat) : 0 ≤ byteAt d k ∧ byteAt d k ≤ 255 := by
 unfold byteAt
 split
 ·rename_i x _
  have := x.toNat_lt;omega
 ·omega
theorem byteAt_list {d : ByteArray} {k : Nat} (h : k < d.size) : d.data.toList[k]? = some (UInt8.ofNat (byteAt d k).toNat) := by
 have hl : k < d.data.toList.length := by simpa using h
 unfold byteAt;rw [List.getElem?_eq_getElem hl];simp
theorem bOne_list (v : Int) : (bOne v).data.toList = [UInt8.ofNat v.toNat] := rfl
theorem app_list (b c : ByteArray) : (b ++ c).data.toList = b.data.toList ++ c.data.toList := by simp [ByteArray.data_append]
theorem bext {b c : ByteArray} (h : b.data.toList = c.data.toList) : b = c := ByteArray.ext (Array.toList_inj.1 h)
theorem takeOne {d : ByteArray} {k : Nat} (h : k < d.size) : d.data.toList.take k ++ (bOne (byteAt d k)).data.toList = d.data.toList.take (k + 1) := by
 rw [List.take_add_one, byteAt_list h];rfl
def pN (d : ByteArray) : Nat := (byteAt d 4).toNat
def pCls (d : ByteArray) : List (Int × Int) := (List.range (pN d)).map fun i => (byteAt d (5 + 2 * i), byteAt d (6 + 2 * i))
def pD (d : ByteArray) : Nat := 5 + 2 * pN d
def pM (d : ByteArray) : Nat := (byteAt d (pD d)).toNat
def pF (d : ByteArray) : Nat := pD d + 1 + pM d
def pL (d : ByteArray) : Nat := (byteAt d (pF d)).toNat
def pIns (d : ByteArray) (i : Nat) : Ins := ⟨byteAt d (pF d + 1 + 4 * i), byteAt d (pF d + 1 + 4 * i + 1), byteAt d (pF d + 1 + 4 * i + 2), byteAt d (pF d + 1 + 4 * i + 3)⟩
def pCode (d : ByteArray) : List Ins := (List.range (pL d)).map (pIns d)
def pEnd (d : ByteArray) : Nat := pF d + 1 + 4 * pL d
def pData (d : ByteArray) : ByteArray := if pF d ≤ d.size then d.extract (pD d + 1) (pF d) else ⟨#[]⟩
def pDataG (d : ByteArray) (n : Nat) : ByteArray := ⟨((List.range n).map fun j => UInt8.ofNat (byteAt d (pD d + 1 + j)).toNat).toArray⟩
def pHead (d : ByteArray) : Bool := byteAt d 0 == 71 && byteAt d 1 == 82
def pSound (d : ByteArray) (m : Nat) : Bool := soundB (byteAt d 2) (byteAt d 3) (pCls d) m (pCode d)
def imgB (d : ByteArray) : Bool := pHead d && decide (pEnd d = d.size) && pSound d (pM d)
theorem pCls_len (d : ByteArray) : (pCls d).length = pN d := by simp [pCls]
theorem pCode_len (d : ByteArray) : (pCode d).length = pL d := by simp [pCode]
theorem pCls_gr (d : ByteArray) (i : Nat) (h : i < pN d) : Cf.gr (pCls d) i = byteAt d (5 + 2 * i) := by simp [Cf.gr, pCls, List.getD, h]
theorem pCls_sl (d : ByteArray) (i : Nat) (h : i < pN d) : Cf.sl (pCls d) i = byteAt d (6 + 2 * i) := by simp [Cf.sl, pCls, List.getD, h]
theorem pCode_get (d : ByteArray) (i : Nat) (h : i < pL d) : (pCode d).getD i Ins.no = pIns d i := by simp [pCode, List.getD, h]
theorem pN_cast (d : ByteArray) : ((pN d : Nat) : Int) = byteAt d 4 := by have := byteAt_bd d 4; unfold pN; omega
theorem pM_cast (d : ByteArray) : ((pM d : Nat) : Int) = byteAt d (pD d) := by have := byteAt_bd d (pD d); unfold pM; omega
theorem pL_cast (d : ByteArray) : ((pL d : Nat) : Int) = byteAt d (pF d) := by have := byteAt_bd d (pF d); unfold pL; omega
theorem pN_le (d : ByteArray) : pN d ≤ 255 := by have := byteAt_bd d 4; unfold pN; omega
theorem pM_le (d : ByteArray) : pM d ≤ 255 := by have := byteAt_bd d (pD d); unfold pM; omega
theorem pL_le (d : ByteArray) : pL d ≤ 255 := by have := byteAt_bd d (pF d); unfold pL; omega
theorem pDataG_eq {d : ByteArray} (h : pF d ≤ d.size) : pDataG d (pM d) = d.extract (pD d + 1) (pF d) := by
 apply bext;rw [Go.Lib.extract_data];show ((List.range (pM d)).map fun j => UInt8.ofNat (byteAt d (pD d + 1 + j)).toNat) = _;have e1 : pF d - (pD d + 1) = pM d := by unfold pF; omega
 rw [e1];apply List.ext_getElem?;intro i
 by_cases hi : i < pM d
 ·rw [List.getElem?_take_of_lt hi, List.getElem?_drop, byteAt_list (show pD d + 1 + i < d.size by unfold pF at h; omega)];simp [hi]
 ·rw [List.getElem?_eq_none (by simp; omega), List.getElem?_eq_none (by simp; omega)]
theorem pData_size {d : ByteArray} (h : pF d ≤ d.size) : (pData d).size = pM d := by
 unfold pData;rw [if_pos h, ← pDataG_eq h];simp [pDataG, ByteArray.size]
section
variable {d : ByteArray}
theorem img1_take (hh : pHead d = true) (h5 : 5 ≤ d.size) : (img1 (byteAt d 2) (byteAt d 3) (pCls d)).data.toList = d.data.toList.take 5 := by
 unfold pHead at hh;simp only [Bool.and_eq_true, beq_iff_eq] at hh;unfold img1;rw [app_list, app_list, app_list, pCls_len, pN_cast];have e0 := takeOne (d := d) (k := 0) (by omega);have e1 := takeOne (d := d) (k := 1) (by omega);have e2 := takeOne (d := d) (k := 2) (by omega);have e3 := takeOne (d := d) (k := 3) (by omega);have e4 := takeOne (d := d) (k := 4) (by omega);rw [hh.1] at e0;rw [hh.2, ← e0] at e1;rw [← e4, ← e3, ← e2, ← e1];rfl
theorem img2_take (hh : pHead d = true) (m : Nat) (hm : m ≤ pN d) (hs : 5 + 2 * m ≤ d.size) : (img2 (byteAt d 2) (byteAt d 3) (pCls d) m).data.toList = d.data.toList.take (5 + 2 * m) := by
 induction m with
 | zero => exact img1_take hh (by omega)
 | succ m ih =>
   unfold img2;rw [app_list, app_list, ih (by omega) (by omega), pCls_gr d m (by omega), pCls_sl d m (by omega)];rw [takeOne (by omega), show 6 + 2 * m = 5 + 2 * m + 1 by omega, takeOne (by omega)]
   congr 1
theorem img3_take (hh : pHead d = true) (hs : pF d < d.size) : (img3 (byteAt d 2) (byteAt d 3) (pCls d) (pData d) (pCode d).length).data.toList = d.data.toList.take (pF d + 1) := by
 have hF : pF d = pD d + 1 + pM d := rfl;have hD : pD d = 5 + 2 * pN d := rfl;unfold img3;rw [app_list, app_list, app_list, pCls_len, img2_take hh (pN d) (Nat.le_refl _) (by omega), pData_size (by omega), pM_cast, ← hD, takeOne (by omega), pCode_len, pL_cast, ← takeOne (k := pF d) hs]
 congr 1
 unfold pData;rw [if_pos (by omega), Go.Lib.extract_data, show pF d - (pD d + 1) = pM d by omega, hF, List.take_add (i := pD d + 1) (j := pM d)]
theorem img4_take (hh : pHead d = true) (t : Nat) (ht : t ≤ pL d) (hs : pF d + 1 + 4 * t ≤ d.size) : (img4 (byteAt d 2) (byteAt d 3) (pCls d) (pData d) (pCode d) t).data.toList = d.data.toList.take (pF d + 1 + 4 * t) := by
 induction t with
 | zero => exact img3_take hh (by omega)
 | succ t ih =>
   unfold img4;rw [app_list, app_list, app_list, app_list, ih (by omega) (by omega), pCode_get d t (by omega)];show _ ++ (bOne (byteAt d (pF d + 1 + 4 * t))).data.toList ++ (bOne (byteAt d (pF d + 1 + 4 * t + 1))).data.toList ++ (bOne (byteAt d (pF d + 1 + 4 * t + 2))).data.toList ++ (bOne (byteAt d (pF d + 1 + 4 * t + 3))).data.toList = _;rw [takeOne (by omega), takeOne (by omega), takeOne (by omega), takeOne (by omega)]
   congr 1
theorem byteAt_app (b c : ByteArray) (k : Nat) (h : k < b.size) : byteAt (b ++ c) k = byteAt b k := by
 have : k < b.data.toList.length := by simpa using h
 unfold byteAt;rw [app_list, List.getElem?_append_left this]
theorem byteAt_app_one (b : ByteArray) (v : Int) (v0 : 0 ≤ v) (v1 : v ≤ 255) : byteAt (b ++ bOne v) b.size = v := by
 unfold byteAt;have e : b.size = b.data.toList.length := by simp
 rw [app_list, e, List.getElem?_append_right (Nat.le_refl _)];simp [bOne_list];omega
theorem img2_pre (st rest : Int) (cls : List (Int × Int)) (m k : Nat) (h : k < 5) : byteAt (img2 st rest cls m) k = byteAt (img1 st rest cls) k := by
 induction m with
 | zero => rfl
 | succ m ih => unfold img2; rw [byteAt_app _ _ _ (by rw [ByteArray.size_append, img2_size]; omega), byteAt_app _ _ _ (by rw [img2_size]; omega), ih]
theorem img4_pre (st rest : Int) (cls : List (Int × Int)) (e : ByteArray) (code : List Ins) (t k : Nat) (h : k < 7 + 2 * cls.length + e.size) : byteAt (img4 st rest cls e code t) k = byteAt (img3 st rest cls e code.length) k := by
 induction t with
 | zero => rfl
 | succ t ih =>
   unfold img4;have := img4_size st rest cls e code t;rw [byteAt_app _ _ _ (by simp only [ByteArray.size_append, bOne_size]; omega), byteAt_app _ _ _ (by simp only [ByteArray.size_append, bOne_size]; omega), byteAt_app _ _ _ (by simp only [ByteArray.size_append, bOne_size]; omega), byteAt_app _ _ _ (by omega), ih]
theorem img3_pre (st rest : Int) (cls : List (Int × Int)) (e : ByteArray) (n k : Nat) (h : k < 5) : byteAt (img3 st rest cls e n) k = byteAt (img1 st rest cls) k := by
 unfold img3;have := img2_size st rest cls cls.length;rw [byteAt_app _ _ _ (by simp only [ByteArray.size_append, bOne_size]; omega), byteAt_app _ _ _ (by simp only [ByteArray.size_append, bOne_size]; omega), byteAt_app _ _ _ (by omega), img2_pre _ _ _ _ _ h]
theorem img3_len (st rest : Int) (cls : List (Int × Int)) (e : ByteArray) (n : Nat) (he : e.size ≤ 255) : byteAt (img3 st rest cls e n) (5 + 2 * cls.length) = e.size := by
 unfold img3;have := img2_size st rest cls cls.length;rw [byteAt_app _ _ _ (by simp only [ByteArray.size_append, bOne_size]; omega), byteAt_app _ _ _ (by simp only [ByteArray.size_append, bOne_size]; omega), ← this, byteAt_app_one _ (e.size : Int) (by omega) (by omega)]
theorem img1_head (st rest : Int) (cls : List (Int × Int)) : byteAt (img1 st rest cls) 0 = 71 ∧ byteAt (img1 st rest cls) 1 = 82 := by
 unfold img1;have e2 : (⟨#[71, 82]⟩ : ByteArray).size = 2 := rfl
 constructor
 ·rw [byteAt_app _ _ _ (by simp only [ByteArray.size_append, bOne_size]; omega), byteAt_app _ _ _ (by simp only [ByteArray.size_append, bOne_size]; omega), byteAt_app _ _ _ (by show 0 < 2; omega)]; rfl
 ·rw [byteAt_app _ _ _ (by simp only [ByteArray.size_append, bOne_size]; omega), byteAt_app _ _ _ (by simp only [ByteArray.size_append, bOne_size, e2]; omega), byteAt_app _ _ _ (by show 1 < 2; omega)]; rfl
theorem pEnd_F (h : pEnd d = d.size) : pF d < d.size := by unfold pEnd at h; omega
theorem imgB_yes (h : imgB d = true) : pSound d (pData d).size = true ∧ img4 (byteAt d 2) (byteAt d 3) (pCls d) (pData d) (pCode d) (pCode d).length = d := by
 unfold imgB at h;simp only [Bool.and_eq_true, decide_eq_true_eq] at h;obtain ⟨⟨h1, h2⟩, h3⟩ := h;have hF := pEnd_F h2;refine ⟨by rw [pData_size (by omega)]; exact h3, bext ?_⟩;rw [pCode_len, img4_take h1 _ (Nat.le_refl _) (by unfold pEnd at h2; omega), show pF d + 1 + 4 * pL d = d.size from h2];exact List.take_of_length_le (by simp)
end
end Go.Proofs.YtjikemhmnkckcabGreat
