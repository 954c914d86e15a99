/-
  The rows of examples at the end of each law of package hurdlelaw03: knows() answers true in every world that has the table of the operations.
-/
import Derived.Test.YtbndnkicmlecoaaDoorCParse
import Derived.Test.YtbndnkicmlecoaaDoorIOf
import Derived.Laws.IdiomStrings
import Derived.Lib.BufferRead
namespace Go.Proofs.YtbndnkicmlecoaaDoor
open Go.ChangeShapes Go.WideShapes Go.ChangeAt Go.RowKit
set_option maxRecDepth 20000

/-- A list of instructions, and of bytes, that was just laid. -/
theorem FAt.lit (w : World) (l : List X4) (t : TypeId) (cap : Nat) : FAt (w.alloc (.cells (fcells l).toArray t)) (.slice (some ⟨w.heap.size, 0, none⟩) l.length cap) l :=
  FAt.of_cells (fun _ => by rw [size_alloc]; omega) fun i u hu => by
    rw [Nat.zero_add, cell_in (heap_alloc_new w (.cells (fcells l).toArray t)) i]
    simpa using hu
theorem BAt.lit (w : World) (l : List UInt8) (t : TypeId) (hm : l.length ≤ 9223372036854775807) : BAt (w.alloc (.cells (bcells l).toArray t)) (.slice (some ⟨w.heap.size, 0, none⟩) l.length l.length) l :=
  ⟨_, _, rfl, Nat.le_refl _, hm, .inr ⟨_, 0, rfl, by rw [size_alloc]; omega, fun i hi => by
    rw [Nat.zero_add, cell_in (heap_alloc_new w (.cells (bcells l).toArray t)) i]
    simp [hi]⟩⟩
/-- Bytes as a text. -/
theorem BAt.conv {w : World} {v : Value} {l : List UInt8} (h : BAt w v l) : (convert 24 9 v).run Tryd.prog w = .ok (.string ⟨l.toArray⟩) w := by
  obtain ⟨ao, cap, rfl, _, _, h⟩ := h
  rcases h with rfl | ⟨b, off, rfl, _, hc⟩
  · cases ao with
    | none => exact Lib.run_convert_nil_bytes w _ _ 5 cap Tryd.underlying24 Tryd.underlying5 Tryd.underlying9
    | some a => exact run_convert_bytes_back w _ _ 5 a cap [] Tryd.underlying24 Tryd.underlying5 Tryd.underlying9 (fun j hj => by simp at hj)
  · refine run_convert_bytes_back w _ _ 5 ⟨b, off, none⟩ cap l Tryd.underlying24 Tryd.underlying5 Tryd.underlying9 (fun j hj => ?_)
    have e : (⟨b, off, none⟩ : Addr).add j = ⟨b, off + j, none⟩ := by unfold Addr.add; split <;> simp_all
    rw [e]
    exact hc j hj
/-- Bytes in a world that only drew, or grew. -/
theorem BAt.shape {w : World} {v : Value} {l : List UInt8} (h : BAt w v l) : ∃ ao cap, v = .slice ao l.length cap := by
  obtain ⟨ao, cap, rfl, _⟩ := h
  exact ⟨ao, cap, rfl⟩
theorem FAt.shape {w : World} {v : Value} {l : List X4} (h : FAt w v l) : ∃ ao cap, v = .slice ao l.length cap := by
  obtain ⟨ao, cap, rfl, _⟩ := h
  exact ⟨ao, cap, rfl⟩

theorem know_enc : ferr [⟨6, 0, 0, 2147418112⟩] = 0 ∧ encL [⟨6, 0, 0, 2147418112⟩] = [6, 0, 0, 0, 0, 0, 255, 127] := by
  have h : ferr [⟨6, 0, 0, 2147418112⟩] = 0 := by decide
  refine ⟨h, ?_⟩
  rw [encL_ok h]
  decide
theorem know_dec : derr [21, 0, 1, 0, 5, 0, 0, 0] = 0 ∧ decL [21, 0, 1, 0, 5, 0, 0, 0] = [⟨21, 1, 0, 5⟩] := by
  have h : derr [21, 0, 1, 0, 5, 0, 0, 0] = 0 := by decide
  refine ⟨h, ?_⟩
  rw [decL_ok h]
  decide
theorem know_line : lineX ⟨6, 0, 0, 0⟩ = [114, 101, 116, 32, 48, 120, 48, 10] := by
  show [114, 101, 116] ++ ((32 :: 48 :: 120 :: Wd.hex 0) ++ []) ++ [10] = _
  rw [Wd.hex_lt (by omega)]
  rfl
theorem know_rd : rdL [114, 101, 116, 32, 48, 120, 48, 10] = ([⟨6, 0, 0, 0⟩], 0, 0) := by
  have h := rd_lines [⟨6, 0, 0, 0⟩] [] (by decide) (by intro x hx; rw [List.mem_singleton.1 hx]; unfold X4.ok; simp) (by simp)
  rw [List.flatMap_cons, List.flatMap_nil, List.append_nil, know_line] at h
  exact h
theorem know_right : ferr [⟨6, 0, 0, 0⟩] = 0 := by decide

set_option maxHeartbeats 2000000 in
theorem cknows_any (w : World) (ht : OTab w) :
    Calls Tryd.prog 9 #[] w fun e w' => e = .returned (.bool true) ∧ Below w.heap.size w w' := by
  have hF0 : FAt (w.alloc (insB 6 0 0 2147418112)) (.slice (some ⟨w.heap.size, 0, none⟩) 1 1) [⟨6, 0, 0, 2147418112⟩] := FAt.lit w [⟨6, 0, 0, 2147418112⟩] 48 1
  have HF0 := Lib.hid hF0
  have HB0 := Lib.hid (ba (insB 6 0 0 2147418112) (Below.refl w.heap.size w))
  clear hF0
  go_enter Tryd.func9, Tryd.ntmps9
  go_wp2_with fail
  refine (encode_any _ _ _ HF0.out (by intro x hx; rw [List.mem_singleton.1 hx]; unfold X4.ok; simp) (ht.below HB0.out)).mono ?_
  rintro e w1 ⟨u1, rfl, hE1, hb1⟩
  rw [know_enc.2] at hE1
  rw [know_enc.1]
  have HE1 := Lib.hid hE1
  have HB1 := Lib.hid (HB0.out.trans (hb1.mono HB0.out.size))
  have hD1 : BAt (w1.alloc (.cells #[.int .u8 21, .int .u8 0, .int .u8 1, .int .u8 0, .int .u8 5, .int .u8 0, .int .u8 0, .int .u8 0] 5)) (.slice (some ⟨w1.heap.size, 0, none⟩) 8 8) [21, 0, 1, 0, 5, 0, 0, 0] := BAt.lit w1 [21, 0, 1, 0, 5, 0, 0, 0] 5 (by decide)
  have HD1 := Lib.hid hD1
  have hb2 := ba (.cells #[.int .u8 21, .int .u8 0, .int .u8 1, .int .u8 0, .int .u8 5, .int .u8 0, .int .u8 0, .int .u8 0] 5) (Below.refl w1.heap.size w1)
  have HE2 := Lib.hid (HE1.out.below hb2)
  have HB2 := Lib.hid (HB1.out.trans (hb2.mono HB1.out.size))
  clear hE1 hb1 hD1 hb2 HF0 HB0 HE1 HB1
  go_wp2_with fail
  refine (decode_any _ _ _ HD1.out (ht.below HB2.out)).mono ?_
  rintro e w3 ⟨u3, rfl, hF3, hb3⟩
  rw [know_dec.2] at hF3
  rw [know_dec.1]
  have HF3 := Lib.hid hF3
  have HE3 := Lib.hid (HE2.out.below hb3)
  have HB3 := Lib.hid (HB2.out.trans (hb3.mono HB2.out.size))
  clear hF3 hb3 HD1 HE2 HB2
  go_wp2_with fail
  refine (cparse_any ⟨#[114, 101, 116, 32, 48, 120, 48, 10]⟩ _ (by decide) (ht.below HB3.out)).mono ?_
  rintro e w4 ⟨u4, rfl, hF4, hb4⟩
  rw [show (⟨#[114, 101, 116, 32, 48, 120, 48, 10]⟩ : ByteArray).data.toList = [114, 101, 116, 32, 48, 120, 48, 10] from rfl, know_rd] at hF4 ⊢
  have HF4 := Lib.hid hF4
  have hF5 := HF3.out.below hb4
  have hconv := (HE3.out.below hb4).conv
  have HB4 := Lib.hid (HB3.out.trans (hb4.mono HB3.out.size))
  obtain ⟨ao4, cap4, rfl⟩ := hF4.shape
  obtain ⟨ao3, cap3, rfl, h3⟩ := hF5
  obtain ⟨b, off, rfl, _, hc⟩ := h3.resolve_left (by simp)
  obtain ⟨c0, c1, c2, c3⟩ := hc 0 (by simp)
  simp only [List.getElem_cons_zero, Nat.zero_mul, Nat.add_zero] at c0 c1 c2 c3
  clear hF4 hb4 HE3 HF3 HB3 hc h3
  go_wp2_with fail
  refine (cright_any _ _ _ HF4.out (ht.below HB4.out)).mono ?_
  rintro e w5 ⟨rfl, hb5⟩
  rw [know_right]
  have HB5 := Lib.hid (HB4.out.trans (hb5.mono HB4.out.size))
  clear hb5 c0 c1 c2 c3 hconv
  go_wp2_with fail
  go_ret
  exact ⟨rfl, HB5.out⟩
end Go.Proofs.YtbndnkicmlecoaaDoor
