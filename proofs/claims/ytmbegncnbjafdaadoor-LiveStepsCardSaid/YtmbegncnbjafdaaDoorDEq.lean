/-
  Two records are compared: what == answers.
-/
import Derived.Test.YtmbegncnbjafdaaDoorDWord
import Derived.DeepKeys
import Derived.Laws.StructEq
namespace Go.Proofs.YtmbegncnbjafdaaDoor
open Go.ChangeShapes Go.WideShapes Go.ChangeAt Go.RowKit
set_option maxRecDepth 100000

theorem keyD : Tryd.prog.keyTypeAt 5 46 = true := by kernel_rfl
theorem key6 : Tryd.prog.keyTypeAt 5 44 = true := by kernel_rfl
def litsD (d : Rec) : List Lit := [.int .u32 d.nr, .int .u32 d.arch, .int .u64 d.ip, .int .u64 d.a0, .int .u64 d.a1, .int .u64 d.a2, .int .u64 d.a3, .int .u64 d.a4, .int .u64 d.a5]
theorem lits_inj {d e : Rec} (h : litsD d = litsD e) : d = e := by
  obtain ⟨nr, arch, ip, a0, a1, a2, a3, a4, a5⟩ := d
  obtain ⟨nr', arch', ip', a0', a1', a2', a3', a4', a5'⟩ := e
  simp only [litsD, List.cons.injEq, Lit.int.injEq, true_and, and_true, Int.natCast_inj] at h
  simp only [Rec.mk.injEq]
  exact h
theorem cellsD' : Tryd.prog.cellsOf 46 = 9 := by kernel_rfl
theorem cells6' : Tryd.prog.cellsOf 44 = 6 := by kernel_rfl
theorem cells64' : Tryd.prog.cellsOf 43 = 1 := by kernel_rfl
theorem cells32' : Tryd.prog.cellsOf 22 = 1 := by kernel_rfl
theorem wf32 {n : Nat} (h : n < 4294967296) : (Lit.int .u32 (n : Int)).wf = true := by
  simp [Lit.wf, IntKind.min, IntKind.max, IntKind.signed, IntKind.bits]
  omega
theorem wf64 {n : Nat} (h : n < 18446744073709551616) : (Lit.int .u64 (n : Int)).wf = true := by
  simp [Lit.wf, IntKind.min, IntKind.max, IntKind.signed, IntKind.bits]
  omega
theorem key32 (k : Nat) {n : Nat} (h : n < 4294967296) : Tryd.prog.keyLits (k + 1) 22 [.int .u32 n] = some [.int .u32 n] := by
  simp only [Program.keyLits, Tryd.underlying22, wf32 h, and_self, if_true]
theorem key64 (k : Nat) {n : Nat} (h : n < 18446744073709551616) : Tryd.prog.keyLits (k + 1) 43 [.int .u64 n] = some [.int .u64 n] := by
  simp only [Program.keyLits, Tryd.underlying43, wf64 h, and_self, if_true]
theorem keyArr (k : Nat) {a0 a1 a2 a3 a4 a5 : Nat} (h0 : a0 < 18446744073709551616) (h1 : a1 < 18446744073709551616) (h2 : a2 < 18446744073709551616) (h3 : a3 < 18446744073709551616) (h4 : a4 < 18446744073709551616) (h5 : a5 < 18446744073709551616) :
    Tryd.prog.keyLits (k + 2) 44 [.int .u64 a0, .int .u64 a1, .int .u64 a2, .int .u64 a3, .int .u64 a4, .int .u64 a5] = some [.int .u64 a0, .int .u64 a1, .int .u64 a2, .int .u64 a3, .int .u64 a4, .int .u64 a5] := by
  unfold Program.keyLits
  rw [Tryd.underlying44]
  simp only [cells6', cells64', List.length_cons, List.length_nil, Nat.zero_add, Nat.reduceAdd, if_true, show List.range 6 = [0, 1, 2, 3, 4, 5] from rfl, List.mapM_cons, List.mapM_nil, Nat.mul_one, List.drop_zero, List.drop_succ_cons, List.take_succ_cons, List.take_zero, key64 k h0, key64 k h1, key64 k h2, key64 k h3, key64 k h4, key64 k h5]
  rfl
theorem keyRec (d : Rec) (hd : d.ok) : Tryd.prog.keyLits 8 46 d.val.cells.toList = some (litsD d) := by
  obtain ⟨nr, arch, ip, a0, a1, a2, a3, a4, a5⟩ := d
  obtain ⟨h0, h1, h2, h3, h4, h5, h6, h7, h8⟩ := hd
  simp only at h0 h1 h2 h3 h4 h5 h6 h7 h8
  show Tryd.prog.keyLits 8 46 [.int .u32 nr, .int .u32 arch, .int .u64 ip, .int .u64 a0, .int .u64 a1, .int .u64 a2, .int .u64 a3, .int .u64 a4, .int .u64 a5] = _
  unfold Program.keyLits
  rw [Tryd.underlying46]
  simp [cellsD', cells6', cells64', cells32', key32 6 h0, key32 6 h1, key64 6 h2, keyArr 5 h3 h4 h5 h6 h7 h8, litsD]
theorem eqIn_rec (d e : Rec) (hd : d.ok) (he : e.ok) (w : World) : (Op.equalIn 10000 46 d.val e.val).run Tryd.prog w = .ok (decide (d = e)) w := by
  obtain ⟨r, hr, hiff⟩ := run_equalIn_deep (P := Tryd.prog) 9995 5 46 keyD w 8 8 d.val e.val (litsD d) (litsD e) (by kernel_rfl) (by kernel_rfl) (keyRec d hd) (keyRec e he)
  rw [hr]
  congr 1
  apply Bool.eq_iff_iff.2
  rw [hiff, decide_eq_true_iff]
  exact ⟨lits_inj, fun h => by rw [h]⟩
theorem eq_rec (d e : Rec) (hd : d.ok) (he : e.ok) (w : World) : (binOp .eql 46 d.val e.val).run Tryd.prog w = .ok (.bool (decide (d = e))) w := by
  rw [run_eql_struct, eqIn_rec d e hd he]
  rfl
theorem eq_same (d : Rec) (hd : d.ok) (w : World) : (binOp .eql 46 d.val d.val).run Tryd.prog w = .ok (.bool true) w := by
  rw [eq_rec d d hd hd]
  simp
theorem eqIn_same (d : Rec) (hd : d.ok) (w : World) : (Op.equalIn 10000 46 d.val d.val).run Tryd.prog w = .ok true w := by
  rw [eqIn_rec d d hd hd]
  simp
end Go.Proofs.YtmbegncnbjafdaaDoor
