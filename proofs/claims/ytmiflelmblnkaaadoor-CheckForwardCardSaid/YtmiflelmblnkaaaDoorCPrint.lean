/-
  What codec.Print answers, for any filter that lies in a world.
-/
import Derived.Test.YtmiflelmblnkaaaDoorSB
import Derived.Test.YtmiflelmblnkaaaDoorCEnc
namespace Go.Proofs.YtmiflelmblnkaaaDoor
open Go.ChangeShapes Go.WideShapes Go.ChangeAt Go.RowKit
set_option maxRecDepth 20000

/-- The text of an instruction with its line's end, and of a filter. -/
def lineX (x : X4) : List UInt8 := text x.op x.jt x.jf x.k ++ [10]
def textL (l : List X4) : List UInt8 := if ferr l = 0 then l.flatMap lineX else []
theorem textL_ok {l : List X4} (h : ferr l = 0) : textL l = l.flatMap lineX := by unfold textL; rw [if_pos h]
theorem textL_bad {l : List X4} (h : ferr l ≠ 0) : textL l = [] := by unfold textL; rw [if_neg h]
theorem line_snoc {l : List X4} {n : Nat} (h : n < l.length) : (l.take (n + 1)).flatMap lineX = (l.take n).flatMap lineX ++ lineX l[n] := by
  rw [List.take_succ_eq_append_getElem h, List.flatMap_append]
  simp
/-- A right instruction is a row's. -/
theorem right_is {x : X4} (h : x.right = true) (hk : x.ok) : ∃ (r : Ip.Row) (a b c : Nat), r ∈ Ip.rows ∧ Ip.Fine r.fmt a b c ∧ x = ⟨r.op, a, b, c⟩ := by
  obtain ⟨op, jt, jf, k⟩ := x
  obtain ⟨r, a, b, c, hr, rfl, rfl, rfl, rfl, hf⟩ := right_row h hk.1 hk.2
  exact ⟨r, a, b, c, hr, hf, rfl⟩
theorem lineX_row {r : Ip.Row} {a b c : Nat} (hr : r ∈ Ip.rows) : lineX ⟨r.op, a, b, c⟩ = (itxt r a b c).data.toList ++ [10] := by
  unfold lineX
  rw [itxt_list]
  simp only
  rw [text_of hr]
theorem lines_le {l : List X4} (hr : l.all X4.right = true) (hk : ∀ x ∈ l, x.ok) : (l.flatMap lineX).length ≤ 63 * l.length := by
  induction l with
  | nil => simp
  | cons x l ih =>
    rw [List.all_cons, Bool.and_eq_true] at hr
    obtain ⟨r, a, b, c, hr', hf, rfl⟩ := right_is hr.1 (hk _ (List.mem_cons_self))
    have h1 := ih hr.2 (fun y hy => hk y (List.mem_cons_of_mem _ hy))
    have h2 := itxt_size hr' hf
    have h3 : (itxt r a b c).data.toList.length = (itxt r a b c).size := Array.length_toList
    rw [List.flatMap_cons, List.length_append, lineX_row hr', List.length_append, show ([10] : List UInt8).length = 1 from rfl, List.length_cons]
    omega
def PrintEnd (l : List X4) (w : World) (e : Ending) (w' : World) : Prop := e = .returned (.tuple #[.string ⟨(textL l).toArray⟩, .int .i64 (ferr l)]) ∧ Below w.heap.size w w'
theorem printEnd {l : List X4} {w w' : World} {s : List UInt8} {n : Int} (hn : ferr l = n) (hs : textL l = s) (hB : Below w.heap.size w w') : PrintEnd l w (.returned (.tuple #[.string ⟨s.toArray⟩, .int .i64 n])) w' := ⟨by rw [hn, hs], hB⟩

set_option maxHeartbeats 2000000 in
theorem cprint_any (v : Value) (l : List X4) (w : World) (hF : FAt w v l) (hk : ∀ x ∈ l, x.ok) (hT : Tab w) (ht : OTab w) :
    Calls Tryd.prog 20 #[v] w (PrintEnd l w) := by
  have HF := Lib.hid hF
  have HK := Lib.hid hk
  obtain ⟨ao, cap, rfl, hF2⟩ := hF
  have HF2 := Lib.hid hF2
  clear hF2 hk
  go_enter Tryd.func20, Tryd.ntmps20
  go_wp2_with fail
  refine (fault_any _ l w HF.out ht).mono ?_
  rintro e w1 ⟨rfl, hb1⟩
  have HB1 := Lib.hid hb1
  have hs1 := hb1.size
  clear hb1
  by_cases he : ferr l = 0
  · have HE := Lib.hid he
    have hl := (ferr_zero he).1
    rw [he]
    clear he
    have HS1 := Lib.hid ((SB.start w1).mono hs1)
    have HB2 := Lib.hid (HB1.out.alloc hs1 (.cells #[.pointer none, .slice none 0 0] 59))
    go_wp2_with fail
    go_loopw [17] (fun i wr => ∃ n : Nat, n ≤ l.length ∧ i = .int .i64 n ∧ SB w.heap.size w1.heap.size ((l.take n).flatMap lineX) wr ∧ Below w.heap.size w wr) (fun i _ => l.length - (intOf i).toNat)
    case atStart => exact ⟨0, by omega, rfl, by simpa using HS1.out, HB2.out⟩
    case round =>
      obtain ⟨n, hn, rfl, hS, hB⟩ := hrel
      have HS := Lib.hid hS
      have HB := Lib.hid hB
      have hsr := hB.size
      clear hS HS1 HB2
      by_cases hlt : n < l.length
      · rcases HF2.out with h0 | ⟨b, off, rfl, hb, hc⟩
        · rw [h0] at hlt; simp at hlt
        obtain ⟨c0, c1, c2, c3⟩ := hc n hlt
        have d0 := (hB.cell (p := ⟨b, _, none⟩) hb).trans c0
        have d1 := (hB.cell (p := ⟨b, _, none⟩) hb).trans c1
        have d2 := (hB.cell (p := ⟨b, _, none⟩) hb).trans c2
        have d3 := (hB.cell (p := ⟨b, _, none⟩) hb).trans c3
        have hra := (ferr_zero HE.out).2
        have hle := lines_le (l := l.take n) (by rw [List.all_eq_true] at hra ⊢; exact fun x hx => hra x (List.mem_of_mem_take hx)) (fun x hx => HK.out x (List.mem_of_mem_take hx))
        rw [List.length_take, Nat.min_eq_left hn] at hle
        rw [List.all_eq_true] at hra
        obtain ⟨r, a, b', c, hr, hf, hx⟩ := right_is (hra _ (List.getElem_mem hlt)) (HK.out _ (List.getElem_mem hlt))
        have hsz := itxt_size hr hf
        have HN : Hid ((l.take (n + 1)).flatMap lineX = (l.take n).flatMap lineX ++ (itxt r a b' c).data.toList ++ (⟨#[10]⟩ : ByteArray).data.toList) := Lib.hid (by rw [line_snoc hlt, hx, lineX_row hr, List.append_assoc])
        rw [hx] at d0 d1 d2 d3
        simp only at d0 d1 d2 d3
        have HR := Lib.hid hr
        have HFi := Lib.hid hf
        have hB3 := ba (insB r.op a b' c) HB.out
        have HB3 := Lib.hid hB3
        have HS3 := Lib.hid (HS.out.below (ba (insB r.op a b' c) (Below.refl wr.heap.size wr)))
        clear hc c0 c1 c2 c3 hB hra hx HB HS hr hf hB3
        go_wp2_with fail
        refine (print_row HR.out HFi.out _ (ht.below HB3.out) (hT.below HB3.out)).mono ?_
        rintro e w4 ⟨rfl, hb4⟩
        have HB4 := Lib.hid (HB3.out.trans (hb4.mono HB3.out.size))
        have HS4 := Lib.hid (HS3.out.below hb4)
        clear hb4 HB3 HS3 d0 d1 d2 d3
        go_wp2_with fail
        refine (sbWrite _ _ _ _ _ HS4.out (by omega) HB4.out.size).mono ?_
        rintro e w5 ⟨rfl, hS5, hb5⟩
        have HB5 := Lib.hid (HB4.out.trans hb5)
        have HS5 := Lib.hid hS5
        clear hb5 hS5 HS4 HB4
        have h10 : (⟨#[10]⟩ : ByteArray).size = 1 := rfl
        have hl5 : (List.flatMap lineX (List.take n l) ++ (itxt r a b' c).data.toList).length ≤ 63 * n + 62 := by
          rw [List.length_append]
          have h3 : (itxt r a b' c).data.toList.length = (itxt r a b' c).size := Array.length_toList
          omega
        have HL5 := Lib.hid (show (List.flatMap lineX (List.take n l) ++ (itxt r a b' c).data.toList).length + (⟨#[10]⟩ : ByteArray).size ≤ 140737488355328 by rw [h10]; omega)
        clear h10 hl5
        go_wp2_with fail
        refine (sbWrite _ _ _ _ _ HS5.out HL5.out HB5.out.size).mono ?_
        rintro e w6 ⟨rfl, hS6, hb6⟩
        have HB6 := Lib.hid (HB5.out.trans hb6)
        rw [← HN.out] at hS6
        have HS6 := Lib.hid hS6
        clear hb6 hS6 HS5 HB5
        go_wp2_with fail
        go_roundw
        case rel => exact ⟨n + 1, by omega, by go_num, HS6.out, HB6.out⟩
        case measure => simp [intOf]; omega
      · obtain rfl : n = l.length := by omega
        have HT := Lib.hid (textL_ok HE.out)
        clear hB
        go_wp2_with fail
        refine (sbString _ _ _ _ HS.out hsr).mono ?_
        rintro e w4 ⟨rfl, hb4⟩
        have HB4 := Lib.hid (HB.out.trans hb4)
        clear hb4
        go_wp2_with fail
        go_ret2
        exact printEnd HE.out HT.out HB4.out
  · have hb : (ferr l == 0) = false := by simpa using he
    have HE := Lib.hid (textL_bad he)
    clear he
    go_wp2_with fail
    go_ret2
    exact printEnd rfl HE.out HB1.out
end Go.Proofs.YtmiflelmblnkaaaDoor
