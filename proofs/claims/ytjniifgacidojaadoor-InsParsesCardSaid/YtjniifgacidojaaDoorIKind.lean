/-
  What ins.Right, Alu, Branch, Ends and Print answer, for any instruction, in every world that has the tables.
-/
import Derived.Test.YtjniifgacidojaaDoorIBy
import Derived.Lib.QuietBelow
namespace Go.Proofs.YtjniifgacidojaaDoor
open Go.ChangeShapes Go.WideShapes Go.ChangeAt Go.RowKit

/-- An instruction's block. -/
abbrev insB (op jt jf k : Int) : Obj := .cells #[.int .i64 op, .int .i64 jt, .int .i64 jf, .int .u32 k] 24
abbrev insV (op jt jf k : Int) : Value := .agg #[.int .i64 op, .int .i64 jt, .int .i64 jf, .int .u32 k]

theorem ends_any (op jt jf k : Int) (w : World) :
    Calls Tryd.prog 20 #[insV op jt jf k] w fun e w' => e = .returned (.bool (op == 6 || op == 22)) ∧ Below w.heap.size w w' := by
  have hb := ba (insB op jt jf k) (Below.refl w.heap.size w)
  have go : ∀ b : Bool, (op == 6) = b → Calls Tryd.prog 20 #[insV op jt jf k] w fun e w' => e = .returned (.bool (b || op == 22)) ∧ Below w.heap.size w w' := by
    intro b h
    cases b
    · go_enter Tryd.func20, Tryd.ntmps20
      go_wp2
      go_ret
      exact ⟨rfl, hb⟩
    · go_enter Tryd.func20, Tryd.ntmps20
      go_wp2
      go_ret
      exact ⟨rfl, hb⟩
  exact go _ rfl

/-- Is it right? -/
def right (op jt jf k : Int) : Bool := (Ip.byOp op).isSome && Ip.fits ((Ip.byOp op).getD Ip.zeroRow).fmt jt jf k

theorem right_any (op jt jf k : Int) (w : World) (ht : OTab w) :
    Calls Tryd.prog 11 #[insV op jt jf k] w fun e w' => e = .returned (.bool (right op jt jf k)) ∧ Below w.heap.size w w' := by
  have HG : Hid (right op jt jf k = ((Ip.byOp op).isSome && Ip.fits ((Ip.byOp op).getD Ip.zeroRow).fmt jt jf k)) := Lib.hid rfl
  have hb := ba (insB op jt jf k) (Below.refl w.heap.size w)
  have hH : (w.alloc (insB op jt jf k)).heap[w.heap.size]? = some (insB op jt jf k) := heap_alloc_new _ _
  have ht1 := ht.alloc (insB op jt jf k)
  go_enter Tryd.func11, Tryd.ntmps11
  go_wp2_with fail
  refine (byOp_any op _ ht1).mono ?_
  rintro e w1 ⟨r, b, rfl, hr, hbb, hB⟩
  rw [← hr, ← hbb] at HG
  have hH1 : w1.heap[w.heap.size]? = some (insB op jt jf k) := (hB.block _ (lt_of_block hH)).trans hH
  have hsz := lt_of_block hH1
  have c0 : w1.cell? ⟨w.heap.size, 0, none⟩ = some (.int .i64 op) := cell_in hH1 0
  have c1 : w1.cell? ⟨w.heap.size, 1, none⟩ = some (.int .i64 jt) := cell_in hH1 1
  have c2 : w1.cell? ⟨w.heap.size, 2, none⟩ = some (.int .i64 jf) := cell_in hH1 2
  have c3 : w1.cell? ⟨w.heap.size, 3, none⟩ = some (.int .u32 k) := cell_in hH1 3
  have HB := Lib.hid (hb.trans (hB.mono hb.size))
  clear hr hbb hB hH hH1 hb ht1
  cases b
  · go_wp2_with fail
    go_ret
    exact ⟨ret1 HG.out.symm, ba _ HB.out⟩
  · go_wp2_with fail
    refine (fits_any _ _ _ _ _ _ _ _).mono ?_
    rintro e w2 ⟨rfl, hB2⟩
    go_wp2_with fail
    go_ret
    refine ⟨ret1 HG.out.symm, ?_⟩
    have h := ba (.cells #[.int .i64 r.op, .string r.str, .int .i64 r.fmt] 41) HB.out
    exact h.trans (hB2.mono h.size)
def isBranch (op : Int) : Bool := (Ip.byOp op).isSome && Ip.hasJ ((Ip.byOp op).getD Ip.zeroRow).fmt
theorem branch_any (op jt jf k : Int) (w : World) (ht : OTab w) :
    Calls Tryd.prog 18 #[insV op jt jf k] w fun e w' => e = .returned (.bool (isBranch op)) ∧ Below w.heap.size w w' := by
  have HG : Hid (isBranch op = ((Ip.byOp op).isSome && Ip.hasJ ((Ip.byOp op).getD Ip.zeroRow).fmt)) := Lib.hid rfl
  have hb := ba (insB op jt jf k) (Below.refl w.heap.size w)
  have hH : (w.alloc (insB op jt jf k)).heap[w.heap.size]? = some (insB op jt jf k) := heap_alloc_new _ _
  have ht1 := ht.alloc (insB op jt jf k)
  go_enter Tryd.func18, Tryd.ntmps18
  go_wp2_with fail
  refine (byOp_any op _ ht1).mono ?_
  rintro e w1 ⟨r, b, rfl, hr, hbb, hB⟩
  rw [← hr, ← hbb] at HG
  have hH1 : w1.heap[w.heap.size]? = some (insB op jt jf k) := (hB.block _ (lt_of_block hH)).trans hH
  have hsz := lt_of_block hH1
  have HB := Lib.hid (hb.trans (hB.mono hb.size))
  clear hr hbb hB hH hH1 hb ht1
  cases b
  · go_wp2_with fail
    go_ret
    exact ⟨ret1 HG.out.symm, ba _ HB.out⟩
  · go_wp2_with fail
    refine (hasJ_any _ _ _ _).mono ?_
    rintro e w2 ⟨rfl, rfl⟩
    go_wp2_with fail
    go_ret
    exact ⟨ret1 HG.out.symm, ba _ (ba _ HB.out)⟩

theorem ret3i {a a' : Int} {b b' c c' : Bool} (h : a = a') (hb : b = b') (hc : c = c') : Ending.returned (.tuple #[.int .i64 a, .bool b, .bool c]) = .returned (.tuple #[.int .i64 a', .bool b', .bool c']) := by rw [h, hb, hc]

theorem alu_any (op jt jf k : Int) (w : World) (ht : OTab w) :
    Calls Tryd.prog 16 #[insV op jt jf k] w fun e w' => ∃ (r : Ip.Row) (b : Bool), r = (Ip.byOp op).getD Ip.zeroRow ∧ b = (Ip.byOp op).isSome ∧
      e = .returned (.tuple #[.int .i64 (if b then Ip.aluK r else 0), .bool (b && r.fmt == 1), .bool (b && (r.fmt == 3 || r.fmt == 1))]) ∧ Below w.heap.size w w' := by
  have hb := ba (insB op jt jf k) (Below.refl w.heap.size w)
  have hH : (w.alloc (insB op jt jf k)).heap[w.heap.size]? = some (insB op jt jf k) := heap_alloc_new _ _
  have ht1 := ht.alloc (insB op jt jf k)
  have hbd := Ip.byOp_bd op
  go_enter Tryd.func16, Tryd.ntmps16
  go_wp2_with fail
  refine (byOp_any op _ ht1).mono ?_
  rintro e w1 ⟨r, b, rfl, hr, hbb, hB⟩
  rw [← hr] at hbd
  obtain ⟨hd0, hd1⟩ := hbd
  refine have HR : Hid (r = _) := Lib.hid hr; ?_
  have HBB := Lib.hid hbb
  have hH1 : w1.heap[w.heap.size]? = some (insB op jt jf k) := (hB.block _ (lt_of_block hH)).trans hH
  have hsz := lt_of_block hH1
  have HB := Lib.hid (hb.trans (hB.mono hb.size))
  clear hr hbb hB hH hH1 hb ht1
  cases b
  · go_wp2_with fail
    go_ret3
    exact ⟨r, false, HR.out, HBB.out, ret3i rfl rfl rfl, ba _ HB.out⟩
  · cases h3 : (r.fmt == 3)
    · cases h1 : (r.fmt == 1)
      · go_wp2_with fail
        go_ret3
        exact ⟨r, true, HR.out, HBB.out, ret3i (by simp only [Ip.aluK, h3, h1]; rfl) (by rw [h1]; rfl) (by rw [h3, h1]; rfl), ba _ HB.out⟩
      · go_wp2_with fail
        go_ret3
        exact ⟨r, true, HR.out, HBB.out, ret3i (by simp only [Ip.aluK, h3, h1]; rfl) (by rw [h1]; rfl) (by rw [h3, h1]; rfl), ba _ HB.out⟩
    · have h1 : (r.fmt == 1) = false := by
        have h : r.fmt = 3 := by simpa using h3
        rw [h]; rfl
      go_wp2_with fail
      go_ret3
      exact ⟨r, true, HR.out, HBB.out, ret3i (by simp only [Ip.aluK, h3]; rfl) (by rw [h1]; rfl) (by rw [h3]; rfl), ba _ HB.out⟩
end Go.Proofs.YtjniifgacidojaaDoor
