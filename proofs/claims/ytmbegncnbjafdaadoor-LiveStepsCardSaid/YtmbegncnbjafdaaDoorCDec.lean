/-
  What codec.take, codec.decodeIns and codec.Decode answer, for any bytes.
-/
import Derived.Test.YtmbegncnbjafdaaDoorCPlain
import Derived.Test.YtmbegncnbjafdaaDoorIReadW
import Derived.BigQuiet
import Derived.Laws.ResultCell
import Derived.Lib.SmallJoins
import Derived.Test.YtmbegncnbjafdaaDoorCFault
namespace Go.Proofs.YtmbegncnbjafdaaDoor
open Go.ChangeShapes Go.WideShapes Go.ChangeAt Go.RowKit
set_option maxRecDepth 20000

theorem slice_from (b off n cap sz : Nat) (h : sz ≤ n) (hc : n ≤ cap) (hcap : cap ≤ 9223372036854775807) : ∃ a c, (∀ W, (Instr.slice 105 (.slice (some ⟨b, off, none⟩) n cap) (some (.int .i64 sz)) none none).run Tryd.prog W = .ok (.slice (some a) (n - sz) c) W) ∧ n - sz ≤ c ∧ c ≤ 9223372036854775807 ∧ (sz < n → a = ⟨b, off + sz, none⟩) := by
  by_cases hc1 : cap = sz
  · refine ⟨⟨b, off, none⟩, 0, fun W => ?_, by omega, by omega, by omega⟩
    obtain rfl : n = sz := by omega
    subst hc1
    go_simp
  · refine ⟨⟨b, off + sz, none⟩, cap - sz, fun W => ?_, by omega, by omega, fun _ => rfl⟩
    go_simp

theorem or_step (l : List UInt8) (o k : Nat) (hk : k < 4) : bits .or .u32 ((numAt l o k : Nat) : Int) (((l[o + k]?.getD 0).toNat : Int) % 4294967296 * 2 ^ (8 * k) % 4294967296) = ((numAt l o (k + 1) : Nat) : Int) := by
  have hc := UInt8.toNat_lt (l[o + k]?.getD 0)
  have hlt := numAt_lt l o k
  have e0 : numAt l o (k + 1) = numAt l o k + (l[o + k]?.getD 0).toNat * 2 ^ (8 * k) := rfl
  rw [e0]
  generalize (l[o + k]?.getD 0).toNat = c at *
  generalize numAt l o k = a at *
  have e : ((c : Int) % 4294967296 * 2 ^ (8 * k) % 4294967296) = ((c * 2 ^ (8 * k) : Nat) : Int) := by
    obtain rfl | rfl | rfl | rfl : k = 0 ∨ k = 1 ∨ k = 2 ∨ k = 3 := by omega
    all_goals simp; omega
  have hb : c * 2 ^ (8 * k) < 4294967296 ∧ a < 4294967296 := by
    obtain rfl | rfl | rfl | rfl : k = 0 ∨ k = 1 ∨ k = 2 ∨ k = 3 := by omega
    all_goals simp at hlt ⊢; omega
  rw [e, u32_or_nat _ _ hb.2 hb.1, Nat.or_comm, nat_join (8 * k) _ _ (Nat.mul_mod_left _ _) hlt, Nat.add_comm]

/-- The instruction of the eight bytes from a place on. -/
def x8 (l : List UInt8) (o : Nat) : X4 := ⟨numAt l o 2, numAt l (o + 2) 1, numAt l (o + 3) 1, numAt l (o + 4) 4⟩
theorem numAt1 (l : List UInt8) (o : Nat) : numAt l o 1 < 256 := numAt_lt l o 1
theorem numAt2 (l : List UInt8) (o : Nat) : numAt l o 2 < 65536 := numAt_lt l o 2
theorem numAt4 (l : List UInt8) (o : Nat) : numAt l o 4 < 4294967296 := numAt_lt l o 4

end Go.Proofs.YtmbegncnbjafdaaDoor

/-
  What codec.Decode answers, for any bytes that lie in a world.
-/
namespace Go.Proofs.YtmbegncnbjafdaaDoor
open Go.ChangeShapes Go.WideShapes Go.ChangeAt Go.RowKit
set_option maxRecDepth 20000

theorem infoX : (Tryd.prog.info? 24).map (fun i => (i.zero, i.size, i.bytes)) = some (some (.agg #[.int .i64 0, .int .i64 0, .int .i64 0, .int .u32 0]), 4, 32) := by kernel_rfl
/-- The instructions of bytes, eight by eight; their error; what is read. -/
def x8s (b : List UInt8) : List X4 := (List.range (b.length / 8)).map fun i => x8 b (8 * i)
def derr (b : List UInt8) : Int := if 32768 < b.length then 3 else if b.length % 8 ≠ 0 then 9 else if (x8s b).all X4.right then 0 else 2
def decL (b : List UInt8) : List X4 := if derr b = 0 then x8s b else []
theorem x8s_len (b : List UInt8) : (x8s b).length = b.length / 8 := by simp [x8s]
theorem x8s_at (b : List UInt8) (i : Nat) (h : i < (x8s b).length) : (x8s b)[i] = x8 b (8 * i) := by simp [x8s]
theorem x8s_snoc (b : List UInt8) (n : Nat) (h : n < b.length / 8) : (x8s b).take (n + 1) = (x8s b).take n ++ [x8 b (8 * n)] := by
  rw [List.take_succ_eq_append_getElem (by rw [x8s_len]; exact h), x8s_at]
theorem decL_ok {b : List UInt8} (h : derr b = 0) : decL b = x8s b := by unfold decL; rw [if_pos h]
theorem decL_bad {b : List UInt8} (h : derr b ≠ 0) : decL b = [] := by unfold decL; rw [if_neg h]
theorem x8_ok (b : List UInt8) (o : Nat) : (x8 b o).ok := by
  have := numAt4 b (o + 4)
  unfold X4.ok x8
  simp only
  omega
def DecEnd (b : List UInt8) (w : World) (e : Ending) (w' : World) : Prop := ∃ u, e = .returned (.tuple #[u, .int .i64 (derr b)]) ∧ FAt w' u (decL b) ∧ Below w.heap.size w w'
theorem decEnd {b : List UInt8} {w w' : World} {u : Value} {n : Int} (hn : derr b = n) (hF : FAt w' u (decL b)) (hB : Below w.heap.size w w') : DecEnd b w (.returned (.tuple #[u, .int .i64 n])) w' := ⟨u, by rw [hn], hF, hB⟩
theorem decEnd_bad {b : List UInt8} {w w' : World} {n : Int} (hn : derr b = n) (h0 : n ≠ 0) (hB : Below w.heap.size w w') : DecEnd b w (.returned (.tuple #[.slice none 0 0, .int .i64 n])) w' :=
  decEnd hn (by rw [decL_bad (by rw [hn]; exact h0)]; exact FAt.nil _) hB
theorem derr_bad {b : List UInt8} {n : Nat} (h1 : b.length ≤ 32768) (h2 : b.length % 8 = 0) (hn : n < b.length / 8) (hr : (x8 b (8 * n)).right = false) : derr b = 2 := by
  unfold derr
  rw [if_neg (by omega), if_neg (by omega), if_neg]
  intro h
  rw [List.all_eq_true] at h
  have := h _ (List.getElem_mem (show n < (x8s b).length by rw [x8s_len]; exact hn))
  rw [x8s_at, hr] at this
  cases this
theorem derr_good {b : List UInt8} {n : Nat} (h1 : b.length ≤ 32768) (h2 : b.length % 8 = 0) (hn : n = b.length / 8) (hr : ((x8s b).take n).all X4.right = true) : derr b = 0 := by
  subst hn
  rw [← x8s_len, List.take_length] at hr
  unfold derr
  rw [if_neg (by omega), if_neg (by omega), if_pos hr]
theorem all_snoc {b : List UInt8} {n : Nat} (hn : n < b.length / 8) (hr : ((x8s b).take n).all X4.right = true) (hx : (x8 b (8 * n)).right = true) : ((x8s b).take (n + 1)).all X4.right = true := by
  rw [x8s_snoc b n hn, List.all_append, hr]
  simpa using hx
theorem fcells_snoc (b : List UInt8) (n : Nat) (h : n < b.length / 8) : fcells ((x8s b).take (n + 1)) = fcells ((x8s b).take n) ++ (x8 b (8 * n)).cells := by
  rw [x8s_snoc b n h, fcells_app, fcells_one]

end Go.Proofs.YtmbegncnbjafdaaDoor
