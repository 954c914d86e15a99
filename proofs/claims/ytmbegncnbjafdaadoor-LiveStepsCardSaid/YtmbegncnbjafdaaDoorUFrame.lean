/-
  The rows of examples at the end of each law of package hurdlelaw06: knows() answers true in every world that has the table of the operations; and what == answers on a state beside itself.
-/
import Derived.Test.YtmbegncnbjafdaaDoorURun
import Derived.Test.YtmbegncnbjafdaaDoorCParse
import Derived.Test.YtmbegncnbjafdaaDoorTabs
import Derived.Test.YtmbegncnbjafdaaDoorDEq
import Derived.Test.YtmbegncnbjafdaaDoorDArgs
namespace Go.Proofs.YtmbegncnbjafdaaDoor
open Go.ChangeShapes Go.WideShapes Go.ChangeAt Go.RowKit
set_option maxRecDepth 100000

def exR : List X4 := [⟨32, 0, 0, 0⟩, ⟨21, 1, 0, 5⟩, ⟨6, 0, 0, 0⟩, ⟨6, 0, 0, 2147418112⟩]
theorem exr_abs : lineX ⟨32, 0, 0, 0⟩ = [97, 98, 115, 32, 48, 120, 48, 10] := by
  show [97, 98, 115] ++ ((32 :: 48 :: 120 :: Wd.hex 0) ++ []) ++ [10] = _
  rw [Wd.hex_lt (by omega)]
  rfl
theorem exr_jeq : lineX ⟨21, 1, 0, 5⟩ = [106, 101, 113, 32, 48, 120, 53, 32, 48, 120, 49, 32, 48, 120, 48, 10] := by
  show [106, 101, 113] ++ ((32 :: 48 :: 120 :: Wd.hex 5) ++ ((32 :: 48 :: 120 :: Wd.hex 1) ++ ((32 :: 48 :: 120 :: Wd.hex 0)))) ++ [10] = _
  rw [Wd.hex_lt (by omega), Wd.hex_lt (by omega), Wd.hex_lt (by omega)]
  rfl
theorem exr_ret : lineX ⟨6, 0, 0, 0⟩ = [114, 101, 116, 32, 48, 120, 48, 10] := by
  show [114, 101, 116] ++ ((32 :: 48 :: 120 :: Wd.hex 0) ++ []) ++ [10] = _
  rw [Wd.hex_lt (by omega)]
  rfl
theorem hexAllow : Wd.hex 2147418112 = [55, 102, 102, 102, 48, 48, 48, 48] := by
  rw [Wd.hex_ge (by omega), Wd.hex_ge (by omega), Wd.hex_ge (by omega), Wd.hex_ge (by omega), Wd.hex_ge (by omega), Wd.hex_ge (by omega), Wd.hex_ge (by omega), Wd.hex_lt (by omega)]
  rfl
theorem exr_allow : lineX ⟨6, 0, 0, 2147418112⟩ = [114, 101, 116, 32, 48, 120, 55, 102, 102, 102, 48, 48, 48, 48, 10] := by
  show [114, 101, 116] ++ ((32 :: 48 :: 120 :: Wd.hex 2147418112) ++ []) ++ [10] = _
  rw [hexAllow]
  rfl
theorem exR_ok : ∀ x ∈ exR, x.ok := by unfold exR; intro x hx; simp at hx; rcases hx with rfl | rfl | rfl | rfl <;> simp [X4.ok]
def exRB : List UInt8 := [97, 98, 115, 32, 48, 120, 48, 10, 106, 101, 113, 32, 48, 120, 53, 32, 48, 120, 49, 32, 48, 120, 48, 10, 114, 101, 116, 32, 48, 120, 48, 10, 114, 101, 116, 32, 48, 120, 55, 102, 102, 102, 48, 48, 48, 48, 10]
theorem rdR : rdL exRB = (exR, 0, 0) := by
  have h := rd_lines exR [] (by decide) exR_ok (by decide)
  rw [show exR.flatMap lineX = lineX ⟨32, 0, 0, 0⟩ ++ (lineX ⟨21, 1, 0, 5⟩ ++ (lineX ⟨6, 0, 0, 0⟩ ++ (lineX ⟨6, 0, 0, 2147418112⟩ ++ []))) from rfl, exr_abs, exr_jeq, exr_ret, exr_allow] at h
  exact h
def rec5 : Rec := ⟨5, 0, 0, 0, 0, 0, 0, 0, 0⟩
def rec6 : Rec := ⟨6, 0, 0, 0, 0, 0, 0, 0, 0⟩
theorem soundR : soundB exR = true := by decide +kernel
theorem runR5 : runS exR rec5 = (2147418112, 3) := by decide +kernel
theorem runR6 : runS exR rec6 = (0, 3) := by decide +kernel
def st3 : St := ⟨3, 0, List.replicate 16 0⟩
def st33 : St := ⟨3, 3, List.replicate 16 0⟩
def st5 : St := ⟨5, 0, List.replicate 16 0⟩
theorem step3 : stepS st3 ⟨7, 0, 0, (0 : Nat)⟩ zeroRec = st33 := by decide +kernel
theorem goes3 : goesS st3 ⟨7, 0, 0, (0 : Nat)⟩ = true := by decide +kernel
theorem takes5 : takesS st5 ⟨37, 0, 0, (4 : Nat)⟩ = true := by decide +kernel
theorem st3_ok : st3.ok := ⟨by decide, by decide, by decide, by decide⟩
theorem rec0_ok : zeroRec.ok := by simp [zeroRec, Rec.ok]
theorem rec5_ok : rec5.ok := by simp [rec5, Rec.ok]
theorem rec6_ok : rec6.ok := by simp [rec6, Rec.ok]

theorem keySt : Tryd.prog.keyTypeAt 5 42 = true := by kernel_rfl
theorem key16 : Tryd.prog.keyTypeAt 5 40 = true := by kernel_rfl
theorem cellsSt : Tryd.prog.cellsOf 42 = 18 := by kernel_rfl
theorem cells16' : Tryd.prog.cellsOf 40 = 16 := by kernel_rfl
theorem cells32s : Tryd.prog.cellsOf 22 = 1 := by kernel_rfl
def litsM (s : St) : List Lit := [.int .u32 (mAt s.m 0), .int .u32 (mAt s.m 1), .int .u32 (mAt s.m 2), .int .u32 (mAt s.m 3), .int .u32 (mAt s.m 4), .int .u32 (mAt s.m 5), .int .u32 (mAt s.m 6), .int .u32 (mAt s.m 7), .int .u32 (mAt s.m 8), .int .u32 (mAt s.m 9), .int .u32 (mAt s.m 10), .int .u32 (mAt s.m 11), .int .u32 (mAt s.m 12), .int .u32 (mAt s.m 13), .int .u32 (mAt s.m 14), .int .u32 (mAt s.m 15)]
def litsSt (s : St) : List Lit := .int .u32 s.a :: .int .u32 s.x :: litsM s
theorem mAt_lt {s : St} (hs : s.ok) (i : Nat) : mAt s.m i < 4294967296 := by
  have := getD_le hs.2.2.2 i
  unfold mAt
  omega
theorem keyArrM (k : Nat) {s : St} (hs : s.ok) : Tryd.prog.keyLits (k + 2) 40 [.int .u32 (mAt s.m 0), .int .u32 (mAt s.m 1), .int .u32 (mAt s.m 2), .int .u32 (mAt s.m 3), .int .u32 (mAt s.m 4), .int .u32 (mAt s.m 5), .int .u32 (mAt s.m 6), .int .u32 (mAt s.m 7), .int .u32 (mAt s.m 8), .int .u32 (mAt s.m 9), .int .u32 (mAt s.m 10), .int .u32 (mAt s.m 11), .int .u32 (mAt s.m 12), .int .u32 (mAt s.m 13), .int .u32 (mAt s.m 14), .int .u32 (mAt s.m 15)] = some (litsM s) := by
  have h := fun i => key32 k (mAt_lt hs i)
  unfold Program.keyLits
  rw [Tryd.underlying40]
  simp only [cells16', cells32s, List.length_cons, List.length_nil, Nat.zero_add, Nat.reduceAdd, if_true, show List.range 16 = [0, 1, 2, 3, 4, 5, 6, 7, 8, 9, 10, 11, 12, 13, 14, 15] from rfl, List.mapM_cons, List.mapM_nil, Nat.mul_one, List.drop_zero, List.drop_succ_cons, List.take_succ_cons, List.take_zero, h]
  rfl
theorem keyStL {s : St} (hs : s.ok) : Tryd.prog.keyLits 8 42 s.val.cells.toList = some (litsSt s) := by
  have h1 := hs.1
  have h2 := hs.2.1
  show Tryd.prog.keyLits 8 42 [.int .u32 s.a, .int .u32 s.x, .int .u32 (mAt s.m 0), .int .u32 (mAt s.m 1), .int .u32 (mAt s.m 2), .int .u32 (mAt s.m 3), .int .u32 (mAt s.m 4), .int .u32 (mAt s.m 5), .int .u32 (mAt s.m 6), .int .u32 (mAt s.m 7), .int .u32 (mAt s.m 8), .int .u32 (mAt s.m 9), .int .u32 (mAt s.m 10), .int .u32 (mAt s.m 11), .int .u32 (mAt s.m 12), .int .u32 (mAt s.m 13), .int .u32 (mAt s.m 14), .int .u32 (mAt s.m 15)] = _
  unfold Program.keyLits
  rw [Tryd.underlying42]
  simp [cellsSt, cells16', cells32s, key32 6 (show s.a < 4294967296 by omega), key32 6 (show s.x < 4294967296 by omega), keyArrM 5 hs, litsSt]
theorem eqIn_st {s : St} (hs : s.ok) (w : World) : (Op.equalIn 10000 42 s.val s.val).run Tryd.prog w = .ok true w := by
  obtain ⟨r, hr, hiff⟩ := run_equalIn_deep (P := Tryd.prog) 9995 5 42 keySt w 8 8 s.val s.val (litsSt s) (litsSt s) (by kernel_rfl) (by kernel_rfl) (keyStL hs) (keyStL hs)
  rw [hr]
  congr 1
  exact hiff.2 rfl
theorem eq_st {s : St} (hs : s.ok) (w : World) : (binOp .eql 42 s.val s.val).run Tryd.prog w = .ok (.bool true) w := by
  rw [run_eql_struct, eqIn_st hs]
  rfl
theorem list18 {α : Type} {l : List α} (h : l.length = 18) : ∃ c0 c1 c2 c3 c4 c5 c6 c7 c8 c9 c10 c11 c12 c13 c14 c15 c16 c17, l = [c0, c1, c2, c3, c4, c5, c6, c7, c8, c9, c10, c11, c12, c13, c14, c15, c16, c17] := by
  match l, h with
  | [c0, c1, c2, c3, c4, c5, c6, c7, c8, c9, c10, c11, c12, c13, c14, c15, c16, c17], _ => exact ⟨c0, c1, c2, c3, c4, c5, c6, c7, c8, c9, c10, c11, c12, c13, c14, c15, c16, c17, rfl⟩
section
variable {H : Type} {enc : TypeId × Value → H} {W : World} {base : Nat} {v : Value} {d : DataW H} {p : List MemPlace}
theorem mAt_list (k2 k3 k4 k5 k6 k7 k8 k9 k10 k11 k12 k13 k14 k15 k16 k17 : Nat) : ∀ (a x : Nat), (⟨a, x, [k2, k3, k4, k5, k6, k7, k8, k9, k10, k11, k12, k13, k14, k15, k16, k17]⟩ : St).val = .agg #[.int .u32 a, .int .u32 x, .int .u32 k2, .int .u32 k3, .int .u32 k4, .int .u32 k5, .int .u32 k6, .int .u32 k7, .int .u32 k8, .int .u32 k9, .int .u32 k10, .int .u32 k11, .int .u32 k12, .int .u32 k13, .int .u32 k14, .int .u32 k15, .int .u32 k16, .int .u32 k17] := fun _ _ => rfl
theorem open_state (hval : Value.okWide Tryd.prog W .any base 42 v) (h : DataW.Trod enc Tryd.prog W 0 (fun _ => true) true 42 v d p) : ∃ s : St, v = s.val ∧ s.ok := by
  obtain ⟨cs, rfl, hsz⟩ := okWide_struct Tryd.underlying42 hval
  rw [cellsSt] at hsz
  obtain ⟨c0, c1, c2, c3, c4, c5, c6, c7, c8, c9, c10, c11, c12, c13, c14, c15, c16, c17, hc⟩ := list18 (l := cs.toList) (by simpa using hsz)
  obtain rfl : cs = #[c0, c1, c2, c3, c4, c5, c6, c7, c8, c9, c10, c11, c12, c13, c14, c15, c16, c17] := by rw [← hc]
  obtain ⟨fuel, hf⟩ := h
  obtain ⟨ys, n, _, _, _, hyl, hff⟩ := DataW.trod_struct Tryd.underlying42 hf
  have hy3 : ys.length = 3 := hyl
  match ys, hy3 with
  | [y0, y1, y2], _ =>
    have h0 : DataW.trod enc Tryd.prog W 0 (fun _ => true) true n 22 [c0] = some y0 := hff 0 _ rfl
    have h1 : DataW.trod enc Tryd.prog W 0 (fun _ => true) true n 22 [c1] = some y1 := hff 1 _ rfl
    have h2 : DataW.trod enc Tryd.prog W 0 (fun _ => true) true n 40 [c2, c3, c4, c5, c6, c7, c8, c9, c10, c11, c12, c13, c14, c15, c16, c17] = some y2 := hff 2 _ rfl
    obtain ⟨xs, m, _, _, _, hxl, hxx⟩ := DataW.trod_array Tryd.underlying40 h2
    rw [cells32s] at hxx
    match xs, hxl with
    | [x0, x1, x2, x3, x4, x5, x6, x7, x8, x9, x10, x11, x12, x13, x14, x15], _ =>
      have g0 : DataW.trod enc Tryd.prog W 0 (fun _ => true) true m 22 [c2] = some x0 := hxx 0 (by omega)
      have g1 : DataW.trod enc Tryd.prog W 0 (fun _ => true) true m 22 [c3] = some x1 := hxx 1 (by omega)
      have g2 : DataW.trod enc Tryd.prog W 0 (fun _ => true) true m 22 [c4] = some x2 := hxx 2 (by omega)
      have g3 : DataW.trod enc Tryd.prog W 0 (fun _ => true) true m 22 [c5] = some x3 := hxx 3 (by omega)
      have g4 : DataW.trod enc Tryd.prog W 0 (fun _ => true) true m 22 [c6] = some x4 := hxx 4 (by omega)
      have g5 : DataW.trod enc Tryd.prog W 0 (fun _ => true) true m 22 [c7] = some x5 := hxx 5 (by omega)
      have g6 : DataW.trod enc Tryd.prog W 0 (fun _ => true) true m 22 [c8] = some x6 := hxx 6 (by omega)
      have g7 : DataW.trod enc Tryd.prog W 0 (fun _ => true) true m 22 [c9] = some x7 := hxx 7 (by omega)
      have g8 : DataW.trod enc Tryd.prog W 0 (fun _ => true) true m 22 [c10] = some x8 := hxx 8 (by omega)
      have g9 : DataW.trod enc Tryd.prog W 0 (fun _ => true) true m 22 [c11] = some x9 := hxx 9 (by omega)
      have g10 : DataW.trod enc Tryd.prog W 0 (fun _ => true) true m 22 [c12] = some x10 := hxx 10 (by omega)
      have g11 : DataW.trod enc Tryd.prog W 0 (fun _ => true) true m 22 [c13] = some x11 := hxx 11 (by omega)
      have g12 : DataW.trod enc Tryd.prog W 0 (fun _ => true) true m 22 [c14] = some x12 := hxx 12 (by omega)
      have g13 : DataW.trod enc Tryd.prog W 0 (fun _ => true) true m 22 [c15] = some x13 := hxx 13 (by omega)
      have g14 : DataW.trod enc Tryd.prog W 0 (fun _ => true) true m 22 [c16] = some x14 := hxx 14 (by omega)
      have g15 : DataW.trod enc Tryd.prog W 0 (fun _ => true) true m 22 [c17] = some x15 := hxx 15 (by omega)
      obtain ⟨k0, rfl, b0⟩ := one_u32 h0
      obtain ⟨k1, rfl, b1⟩ := one_u32 h1
      obtain ⟨k2, rfl, b2⟩ := one_u32 g0
      obtain ⟨k3, rfl, b3⟩ := one_u32 g1
      obtain ⟨k4, rfl, b4⟩ := one_u32 g2
      obtain ⟨k5, rfl, b5⟩ := one_u32 g3
      obtain ⟨k6, rfl, b6⟩ := one_u32 g4
      obtain ⟨k7, rfl, b7⟩ := one_u32 g5
      obtain ⟨k8, rfl, b8⟩ := one_u32 g6
      obtain ⟨k9, rfl, b9⟩ := one_u32 g7
      obtain ⟨k10, rfl, b10⟩ := one_u32 g8
      obtain ⟨k11, rfl, b11⟩ := one_u32 g9
      obtain ⟨k12, rfl, b12⟩ := one_u32 g10
      obtain ⟨k13, rfl, b13⟩ := one_u32 g11
      obtain ⟨k14, rfl, b14⟩ := one_u32 g12
      obtain ⟨k15, rfl, b15⟩ := one_u32 g13
      obtain ⟨k16, rfl, b16⟩ := one_u32 g14
      obtain ⟨k17, rfl, b17⟩ := one_u32 g15
      refine ⟨⟨k0, k1, [k2, k3, k4, k5, k6, k7, k8, k9, k10, k11, k12, k13, k14, k15, k16, k17]⟩, (mAt_list k2 k3 k4 k5 k6 k7 k8 k9 k10 k11 k12 k13 k14 k15 k16 k17 k0 k1).symm, by show k0 ≤ 4294967295; omega, by show k1 ≤ 4294967295; omega, rfl, ?_⟩
      intro z hz
      simp only [List.mem_cons, List.not_mem_nil, or_false] at hz
      omega
end
end Go.Proofs.YtmbegncnbjafdaaDoor
