/-
  The rows of examples at the end of each law of package hurdlelaw08: knows() answers true; an argument that is a condition.
-/
import Derived.Test.YtlhpdjafhjfcoaaDoorQProg
import Derived.Test.YtlhpdjafhjfcoaaDoorDArgs
import Derived.Lib.QuietBelow
namespace Go.Proofs.YtlhpdjafhjfcoaaDoor
open Go.ChangeShapes Go.WideShapes Go.ChangeAt Go.RowKit Go.Deep
set_option maxRecDepth 100000

theorem cellsCd : Tryd.prog.cellsOf 24 = 4 := by kernel_rfl
theorem list4 {α : Type} {l : List α} (h : l.length = 4) : ∃ x0 x1 x2 x3, l = [x0, x1, x2, x3] := by
  match l, h with
  | [x0, x1, x2, x3], _ => exact ⟨x0, x1, x2, x3, rfl⟩
section
variable {H : Type} {enc : TypeId × Value → H} {W : World} {base : Nat} {v : Value} {d : DataW H} {p : List MemPlace}
theorem one_i64 {n : Nat} {c : Value} {y : DataW H × List MemPlace} (h : DataW.trod enc Tryd.prog W 0 (fun _ => true) true n 3 [c] = some y) : ∃ k : Int, c = .int .i64 k := by
  obtain ⟨z, e, _, _⟩ := DataW.trod_int Tryd.underlying3 h
  simp only [List.cons.injEq, and_true] at e
  exact ⟨z, e⟩
theorem open_cond (hval : Value.okWide Tryd.prog W .any base 24 v) (h : DataW.Trod enc Tryd.prog W 0 (fun _ => true) true 24 v d p) : ∃ c : Cd, v = c.val ∧ c.ok := by
  obtain ⟨cs, rfl, hsz⟩ := okWide_struct Tryd.underlying24 hval
  rw [cellsCd] at hsz
  obtain ⟨c0, c1, c2, c3, hc⟩ := list4 (l := cs.toList) (by simpa using hsz)
  obtain rfl : cs = #[c0, c1, c2, c3] := by rw [← hc]
  obtain ⟨fuel, hf⟩ := h
  obtain ⟨ys, n, _, _, _, hyl, hff⟩ := DataW.trod_struct Tryd.underlying24 hf
  have hy4 : ys.length = 4 := hyl
  match ys, hy4 with
  | [y0, y1, y2, y3], _ =>
    have h0 : DataW.trod enc Tryd.prog W 0 (fun _ => true) true n 3 [c0] = some y0 := hff 0 _ rfl
    have h1 : DataW.trod enc Tryd.prog W 0 (fun _ => true) true n 3 [c1] = some y1 := hff 1 _ rfl
    have h2 : DataW.trod enc Tryd.prog W 0 (fun _ => true) true n 22 [c2] = some y2 := hff 2 _ rfl
    have h3 : DataW.trod enc Tryd.prog W 0 (fun _ => true) true n 22 [c3] = some y3 := hff 3 _ rfl
    obtain ⟨k0, rfl⟩ := one_i64 h0
    obtain ⟨k1, rfl⟩ := one_i64 h1
    obtain ⟨k2, rfl, b2⟩ := one_u64 h2
    obtain ⟨k3, rfl, b3⟩ := one_u64 h3
    exact ⟨⟨k0, k1, k2, k3⟩, rfl, b2, b3⟩
end
def exQ : Cd := ⟨0, 0, 255, 5⟩
def exQn : Cd := ⟨0, 1, 255, 5⟩
theorem exQ_ok : exQ.ok := ⟨by decide, by decide⟩
theorem exQn_ok : exQn.ok := ⟨by decide, by decide⟩
theorem exQ_right : exQ.right = true := by decide
theorem exQn_right : exQn.right = true := by decide
theorem hex255 : Wd.hex 255 = [102, 102] := by
  rw [Wd.hex_ge (by omega), Wd.hex_lt (by omega)]
  rfl
theorem exQ_text : textT exQ = ⟨#[97, 48, 32, 48, 120, 102, 102, 32, 101, 113, 32, 48, 120, 53]⟩ := by
  show (⟨(argW 0 ++ 32 :: ((48 :: 120 :: Wd.hex 255) ++ 32 :: (cmpW 0 ++ 32 :: (48 :: 120 :: Wd.hex 5)))).toArray⟩ : ByteArray) = _
  rw [hex255, Wd.hex_lt (by omega)]
  rfl
theorem exQn_text : textT exQn = ⟨#[97, 48, 32, 48, 120, 102, 102, 32, 110, 101, 32, 48, 120, 53]⟩ := by
  show (⟨(argW 0 ++ 32 :: ((48 :: 120 :: Wd.hex 255) ++ 32 :: (cmpW 1 ++ 32 :: (48 :: 120 :: Wd.hex 5)))).toArray⟩ : ByteArray) = _
  rw [hex255, Wd.hex_lt (by omega)]
  rfl
theorem textT_inj {c e : Cd} (hc : c.right = true) (he : e.right = true) (h : textT c = textT e) : c = e := by
  refine textQ_inj hc he ?_
  have := congrArg (fun b : ByteArray => b.data.toList) h
  simpa [textT] using this
theorem exQ_not : exQ.not = exQn := by decide
def recQ : Rec := ⟨0, 0, 0, 261, 0, 0, 0, 0, 0⟩
theorem recQ_ok : recQ.ok := by simp [recQ, Rec.ok]
theorem exQ_holds : exQ.holds recQ = true := by decide +kernel
set_option maxHeartbeats 4000000 in
theorem qknows_any (w : World) (ht : QTab w) :
    Calls Tryd.prog 13 #[] w fun e w' => e = .returned (.bool true) ∧ Below w.heap.size w w' := by
  go_enter Tryd.func13, Tryd.ntmps13
  go_wp2_with fail
  refine (qparse_any ⟨#[97, 48, 32, 48, 120, 102, 102, 32, 101, 113, 32, 48, 120, 53]⟩ _ (by decide) ht).mono ?_
  rintro e w1 ⟨hE, hb1⟩
  have hE' : e = .returned (.tuple #[exQ.val, .int .i64 0]) := by
    rcases hE with ⟨c, hc, hr, hs, rfl⟩ | ⟨hno, _⟩
    · rw [← exQ_text] at hs
      obtain rfl := textT_inj exQ_right hr hs
      rfl
    · exact absurd exQ_text.symm (hno exQ exQ_ok exQ_right)
  subst hE'
  clear hE
  have HB1 := Lib.hid hb1
  clear hb1
  go_upto_region 4 with fail
  obtain ⟨W, hW, hX, hD, hb⟩ := box2 w1 (cdB exQ) (.cells recQ.cells 28)
  change Code.wp _ _ _ _ ((w1.alloc (cdB exQ)).alloc (.cells recQ.cells 28))
  rw [← hW]
  have HX := Lib.hid hX
  have HD := Lib.hid hD
  have HB2 := Lib.hid (below2 HB1.out hb)
  clear hW hX hD hb
  obtain ⟨c0, c1, c2, c3⟩ := cdX HX.out
  go_wp2_with fail
  refine (qnot_any exQ _ (ht.below HB2.out)).mono ?_
  rintro e w3 ⟨rfl, hb3⟩
  rw [exQ_not]
  have HX3 := Lib.hid (kb hb3 HX.out)
  have HD3 := Lib.hid (kb hb3 HD.out)
  have HB3 := Lib.hid (below2 HB2.out hb3)
  clear hb3 c0 c1 c2 c3
  go_wp2_with fail
  refine (qprint_good exQn _ exQn_ok exQn_right (ht.below HB3.out)).mono ?_
  rintro e w4 ⟨rfl, hb4⟩
  rw [exQn_text]
  have HX4 := Lib.hid (kb hb4 HX3.out)
  have HD4 := Lib.hid (kb hb4 HD3.out)
  have HB4 := Lib.hid (below2 HB3.out hb4)
  clear hb4
  obtain ⟨c0, c1, c2, c3⟩ := cdX HX4.out
  go_wp2_with fail
  refine (qright_any exQ _ (ht.below HB4.out)).mono ?_
  rintro e w5 ⟨rfl, hb5⟩
  rw [exQ_right]
  have HX5 := Lib.hid (kb hb5 HX4.out)
  have HD5 := Lib.hid (kb hb5 HD4.out)
  have HB5 := Lib.hid (below2 HB4.out hb5)
  clear hb5 c0 c1 c2 c3
  obtain ⟨c0, c1, c2, c3⟩ := cdX HX5.out
  obtain ⟨x0, x1, x2, x3, x4, x5, x6, x7, x8⟩ := rec_cells HD5.out
  go_wp2_with fail
  refine (qholds_any exQ recQ _ exQ_ok recQ_ok (ht.below HB5.out)).mono ?_
  rintro e w6 ⟨rfl, hb6⟩
  rw [exQ_holds]
  have HB6 := Lib.hid (below2 HB5.out hb6)
  clear hb6 c0 c1 c2 c3 x0 x1 x2 x3 x4 x5 x6 x7 x8
  go_wp2_with fail
  go_ret
  exact ⟨rfl, HB6.out⟩
/-- The last word of a law: the rows of examples. -/
theorem qknow_end {a w : World} (hb : Below a.heap.size a w) (ht : QTab a) : Calls Tryd.prog 13 #[] w fun e w' => e = .returned (.bool true) ∧ Below a.heap.size a w' :=
  (qknows_any w (ht.below hb)).mono fun _ _ ⟨he, h⟩ => ⟨he, below2 hb h⟩
end Go.Proofs.YtlhpdjafhjfcoaaDoor
