/-
  What word.Text answers, for any number of 64 bits, in every world that has the table of math/bits: 0x and the number's hexadecimal digits; nothing that was there is changed.
-/
import Derived.Test.YtmiflelmblnkaaaDoorBase
import Derived.Test.YtmiflelmblnkaaaDoorProg
import Derived.Test.YtmiflelmblnkaaaDoorPlain
import Derived.WalkKit
import Derived.ProofKit
import Derived.Lib.Hide
namespace Go.Proofs.YtmiflelmblnkaaaDoor
open Go.ChangeShapes Go.WideShapes Go.ChangeAt Go.RowKit

/-- The one place of the table that is read: that of 16. -/
def Tab (w : World) : Prop := w.cell? ⟨4, 15, none⟩ = some (.int .u8 4) ∧ 4 < w.heap.size
theorem Tab.below {w w' : World} (h : Tab w) (hb : Below w.heap.size w w') : Tab w' :=
  ⟨(hb.cell (p := ⟨4, 15, none⟩) h.2).trans h.1, Nat.lt_of_lt_of_le h.2 hb.size⟩

theorem tz64 (w : World) (ht : Tab w) :
    Calls Tryd.prog 87 #[.int .u64 16] w fun e w' => e = .returned (.int .i64 4) ∧ w = w' := by
  have hc := ht.1
  have he : IntKind.u64.wrap (bits BinOp.and IntKind.u64 16 (IntKind.u64.wrap (-16)) * 285870213051353865) / 288230376151711744 = 15 := by decide
  clear ht
  go_enter Tryd.func87, Tryd.ntmps87
  go_wp2
  go_ret
  exact ⟨rfl, rfl⟩
theorem tz (w : World) (ht : Tab w) :
    Calls Tryd.prog 85 #[.int .u64 16] w fun e w' => e = .returned (.int .i64 4) ∧ w = w' := by
  go_enter Tryd.func85, Tryd.ntmps85
  go_wp2_with (go_at_call 87; refine (tz64 _ ht).mono ?_; rintro e w' ⟨rfl, rfl⟩)
  go_ret
  exact ⟨rfl, rfl⟩
theorem pow2 (w : World) :
    Calls Tryd.prog 84 #[.int .i64 16] w fun e w' => e = .returned (.bool true) ∧ w = w' := by
  have he : (bits BinOp.and IntKind.i64 16 15 == 0) = true := by decide
  go_enter Tryd.func84, Tryd.ntmps84
  go_wp2
  go_ret
  exact ⟨rfl, rfl⟩

/-- What the array of 65 bytes in block g holds from place i on. -/
structure Buf (g : Nat) (w : World) (i : Nat) (suf : List UInt8) : Prop where
  cells : ∀ j, j < 65 → ∃ v : Int, w.cell? ⟨g, j, none⟩ = some (.int .u8 v)
  free : ∀ j, w.frozen? ⟨g, j, none⟩ = false
  has : ∀ j (h : j < suf.length), w.cell? ⟨g, i + j, none⟩ = some (.int .u8 (suf[j].toNat : Int))

theorem Buf.put {g : Nat} {w : World} {i : Nat} {suf : List UInt8} (h : Buf g w (i + 1) suf) (hi : i < 65) (c : UInt8) : Buf g (w.setCell ⟨g, i, none⟩ (.int .u8 (c.toNat : Int))) i (c :: suf) := by
  obtain ⟨v, hv⟩ := h.cells i hi
  refine ⟨fun j hj => ?_, fun j => ?_, fun j hj => ?_⟩
  · by_cases e : j = i
    · subst e; exact ⟨_, World.cell?_setCell_same _ _ _ hv⟩
    · rw [World.cell?_setCell_other _ _ _ _ (by simp)]; exact h.cells j hj
  · rw [World.frozen?_setCell]; exact h.free j
  · cases j with
    | zero => exact World.cell?_setCell_same _ _ _ hv
    | succ j =>
      rw [World.cell?_setCell_other _ _ _ _ (by simp), show i + (j + 1) = i + 1 + j by omega]
      exact h.has j (by simpa using hj)

/-- The cells of a new array of 65 bytes. -/
def zs65 : Array Value := Array.replicate 65 (.int .u8 0)
theorem zs65_at (i : Nat) (h : i < 65) : zs65[i]? = some (.int .u8 0) := by simp [zs65, h]
theorem zs65_ne : zs65 ≠ #[] := by
  intro h
  have e := zs65_at 0 (by omega)
  rw [h] at e
  simp at e
theorem zv65 (w : World) : (zeroValue 114).run Tryd.prog w = .ok (.agg zs65) w := by
  have h : (Tryd.prog.info? 114).map (·.zero) = some (some (.agg zs65)) := by kernel_rfl
  cases hi : Tryd.prog.info? 114 with
  | none => rw [hi] at h; cases h
  | some i =>
    rw [hi] at h
    have h2 : i.zero = some (.agg zs65) := by simpa using h
    simp [zeroValue, typeInfo, hi, h2]
theorem Buf.new (w : World) : Buf w.heap.size (w.alloc (.cells zs65 114)) 65 [] := by
  refine ⟨fun j hj => ⟨0, ?_⟩, fun j => ?_, fun j hj => ?_⟩
  · rw [World.cell?_alloc_new]; exact zs65_at j hj
  · exact World.frozen?_alloc_new _ _ _ _
  · simp at hj

/-- What strconv's table of digits has at place d. -/
theorem digs_at (d : Nat) (h : d < 16) (h' : d < (⟨#[48, 49, 50, 51, 52, 53, 54, 55, 56, 57, 97, 98, 99, 100, 101, 102, 103, 104, 105, 106, 107, 108, 109, 110, 111, 112, 113, 114, 115, 116, 117, 118, 119, 120, 121, 122]⟩ : ByteArray).size) :
    (⟨#[48, 49, 50, 51, 52, 53, 54, 55, 56, 57, 97, 98, 99, 100, 101, 102, 103, 104, 105, 106, 107, 108, 109, 110, 111, 112, 113, 114, 115, 116, 117, 118, 119, 120, 121, 122]⟩ : ByteArray)[d]'h' = Wd.hexB d := by
  rcases d with _ | _ | _ | _ | _ | _ | _ | _ | _ | _ | _ | _ | _ | _ | _ | _ | d
  all_goals first | rfl | omega

set_option maxHeartbeats 1000000 in
set_option maxRecDepth 100000 in
theorem bits16 (n : Nat) (w : World) (hn : n < 18446744073709551616) (ht : Tab w) :
    Calls Tryd.prog 80 #[.slice none 0 0, .int .u64 n, .int .i64 16, .bool false, .bool false] w fun e w' =>
      e = .returned (.tuple #[.slice none 0 0, .string ⟨(Wd.hex n).toArray⟩]) ∧ Below w.heap.size w w' := by
  have hz := zv65
  have hne := zs65_ne
  have hb0 : Below w.heap.size w (w.alloc (.cells zs65 114)) := (Below.refl _ _).alloc (Nat.le_refl _) _
  have ht0 := ht.below hb0
  go_enter Tryd.func80, Tryd.ntmps80
  go_wp2_with (first
    | (go_at_call 84; refine (pow2 _).mono ?_; rintro e w' ⟨rfl, rfl⟩)
    | (go_at_call 85; refine (tz _ ht0).mono ?_; rintro e w' ⟨rfl, rfl⟩))
  clear ht ht0 hz hne
  go_loopw [1, 13] (fun u i w' => ∃ (x k : Nat) (suf : List UInt8), u = .int .u64 x ∧ i = .int .i64 k ∧ 50 ≤ k ∧ k ≤ 65 ∧ x < 16 ^ (k - 49) ∧ suf.length = 65 - k ∧ Wd.hex n = Wd.hex x ++ suf ∧ Buf w.heap.size w' k suf ∧ Below w.heap.size w w') (fun u _ _ => (intOf u).toNat)
  case atStart => exact ⟨n, 65, [], rfl, rfl, by omega, by omega, by simpa using hn, rfl, by simp, Buf.new w, hb0⟩
  case round =>
    obtain ⟨x, k, suf, rfl, rfl, hk0, hk1, hx, hl, he, hB, hW⟩ := hrel
    obtain ⟨m, rfl⟩ : ∃ m, k = m + 1 := ⟨k - 1, by omega⟩
    have hx64 : x < 18446744073709551616 := Nat.lt_of_lt_of_le hx (Wd.pow16_le _ hk1)
    obtain ⟨v, hc⟩ := hB.cells m (by omega)
    have hf := hB.free m
    have HB := Lib.hid hB
    have HW := Lib.hid hW
    have HE := Lib.hid he
    have HL := Lib.hid hl
    have HX := Lib.hid hx
    clear hB hW he hl hx hb0
    by_cases hge : 16 ≤ x
    · have hand : bits .and .u64 (x : Int) 15 = ((x % 16 : Nat) : Int) := Wd.and15 x hx64
      have hm16 : x % 16 < 16 := by omega
      go_wp2
      obtain ⟨h50, hx'⟩ := Wd.pow16_step HX.out hge
      rw [digs_at (x % 16) hm16]
      refine ⟨⟨x / 16, m, Wd.hexB (x % 16) :: suf, by go_num, rfl, h50, by omega, hx', by simp [HL.out]; omega, ?_, HB.out.put (by omega) _, HW.out.setCell (Nat.le_refl _) _⟩, by simp [intOf]; omega⟩
      rw [HE.out, Wd.hex_ge hge]
      simp
    · have hlt : x < 16 := by omega
      have hsl : ∀ W, (Instr.sliceAt 114 (.pointer (some ⟨w.heap.size, 0, none⟩)) (some (.int .i64 (m : Int))) none none).run Tryd.prog W = .ok (.slice (some ⟨w.heap.size, m, none⟩) (65 - m) (65 - m)) W := fun W => by
        rw [run_sliceAt_array_l W 114 ⟨w.heap.size, 0, none⟩ Tryd.underlying114 .i64 (m : Int) (by omega) (by show (m : Int) ≤ 65; omega)]
        go_simp
        omega
      have hcv := run_convert_bytes_back (P := Tryd.prog) (wr.setCell ⟨w.heap.size, m, none⟩ (.int .u8 ((Wd.hexB x).toNat : Int))) 37 9 5 ⟨w.heap.size, m, none⟩ (65 - m) (Wd.hexB x :: suf) Tryd.underlying37 Tryd.underlying5 Tryd.underlying9 (fun j hj => by rw [show (⟨w.heap.size, m, none⟩ : Addr).add j = ⟨w.heap.size, m + j, none⟩ by simp [Addr.add]]; exact (HB.out.put (by omega) _).has j hj)
      rw [show (Wd.hexB x :: suf).length = 65 - m by simp [HL.out]; omega, ← digs_at x hlt (by show x < 36; omega)] at hcv
      clear HL HX
      go_wp2
      go_ret2
      refine ⟨?_, HW.out.setCell (Nat.le_refl _) _⟩
      rw [HE.out, Wd.hex_lt hlt, ← digs_at x hlt (by show x < 36; omega)]
      rfl

theorem fmt_i (n : Nat) (w : World) (hn : n < 18446744073709551616) (ht : Tab w) :
    Calls Tryd.prog 74 #[.int .u64 n, .int .i64 16] w fun e w' => e = .returned (.string ⟨(Wd.hex n).toArray⟩) ∧ Below w.heap.size w w' := by
  go_enter Tryd.func74, Tryd.ntmps74
  go_wp2_with (go_at_call 80; refine (bits16 n _ hn ht).mono ?_; rintro e w' ⟨rfl, hb⟩)
  go_ret
  exact ⟨rfl, hb⟩
theorem fmt_o (n : Nat) (w : World) (hn : n < 18446744073709551616) (ht : Tab w) :
    Calls Tryd.prog 68 #[.int .u64 n, .int .i64 16] w fun e w' => e = .returned (.string ⟨(Wd.hex n).toArray⟩) ∧ Below w.heap.size w w' := by
  go_enter Tryd.func68, Tryd.ntmps68
  go_wp2_with (go_at_call 74; refine (fmt_i n _ hn ht).mono ?_; rintro e w' ⟨rfl, hb⟩)
  go_ret
  exact ⟨rfl, hb⟩

/-- word.Text. -/
theorem text_any (n : Nat) (w : World) (hn : n < 18446744073709551616) (ht : Tab w) :
    Calls Tryd.prog 63 #[.int .u64 n] w fun e w' => e = .returned (.string (Wd.txt n)) ∧ Below w.heap.size w w' := by
  have hl := Wd.hex_len16 n hn
  go_enter Tryd.func63, Tryd.ntmps63
  go_wp2_with (go_at_call 68; refine (fmt_o n _ hn ht).mono ?_; rintro e w' ⟨rfl, hb⟩)
  go_ret
  exact ⟨congrArg (fun s => Ending.returned (.string s)) (Wd.joined [48, 120] (Wd.hex n)), hb⟩
end Go.Proofs.YtmiflelmblnkaaaDoor
