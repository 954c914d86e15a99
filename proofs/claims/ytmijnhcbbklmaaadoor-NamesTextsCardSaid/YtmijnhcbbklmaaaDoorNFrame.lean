/-
  The rows of examples at the end of each law of package hurdlelaw09: knows() answers true.
-/
import Derived.Test.YtmijnhcbbklmaaaDoorNProg
import Derived.Lib.QuietBelow
namespace Go.Proofs.YtmijnhcbbklmaaaDoor
open Go.ChangeShapes Go.WideShapes Go.ChangeAt Go.RowKit
set_option maxRecDepth 20000

theorem reads_x64 : readN machT ⟨#[120, 54, 52]⟩ (some 3221225534) := ⟨by decide, rfl⟩
theorem reads_exit : readN (callT 3221225534) ⟨#[101, 120, 105, 116]⟩ (some 60) := ⟨by decide, rfl⟩
theorem txt60 : Wd.txt 60 = ⟨#[48, 120, 51, 99]⟩ := by
  show (⟨(48 :: 120 :: Wd.hex 60).toArray⟩ : ByteArray) = _
  rw [Wd.hex_ge (by omega), Wd.hex_lt (by omega)]
  rfl
theorem reads_3c : readN (callT 3221225534) ⟨#[48, 120, 51, 99]⟩ none := by
  rw [← txt60]
  refine readN_no (fun p hp e => ?_) (fun n _ e h => ?_)
  · exact tbl_head (callT_good _) hp (by rw [e]; rfl)
  · obtain rfl := Wd.txt_inj e
    rw [txt60] at h
    exact absurd h (by decide)
theorem text_3d : textN (callT 3221225534) 61 = ⟨#[48, 120, 51, 100]⟩ := by
  show (⟨(48 :: 120 :: Wd.hex 61).toArray⟩ : ByteArray) = _
  rw [Wd.hex_ge (by omega), Wd.hex_lt (by omega)]
  rfl
theorem text_x64 : textN machT 3221225534 = ⟨#[120, 54, 52]⟩ := rfl
theorem act_1 : actS 327681 = ⟨#[101, 114, 114, 111, 114, 58, 48, 120, 49]⟩ := by
  rw [actS_err (by omega) (by omega)]
  show (⟨#[101, 114, 114, 111, 114, 58]⟩ : ByteArray) ++ ⟨(48 :: 120 :: Wd.hex 1).toArray⟩ = _
  rw [Wd.hex_lt (by omega)]
  rfl
theorem isA_1 : (actT 327681).isSome = true := by
  unfold actT
  rw [if_pos ⟨by omega, by omega⟩]
  rfl
set_option maxHeartbeats 4000000 in
theorem nknows_any (w : World) (ht : Tab w) :
    Calls Tryd.prog 14 #[] w fun e w' => e = .returned (.bool true) ∧ Below w.heap.size w w' := by
  have HTab := Lib.hid ht
  clear ht
  go_enter Tryd.func14, Tryd.ntmps14
  go_wp2_with fail
  refine (nreadmachine_any ⟨#[120, 54, 52]⟩ _ (by decide) HTab.out).mono ?_
  rintro e w1 ⟨⟨o, ho, rfl⟩, hb1⟩
  obtain rfl := readN_one machT_good ho reads_x64
  have HB1 := Lib.hid hb1
  clear hb1 ho
  go_wp2_with fail
  refine (nreadcall_any 3221225534 ⟨#[101, 120, 105, 116]⟩ _ (by decide) (by decide) (HTab.out.below HB1.out)).mono ?_
  rintro e w2 ⟨⟨o, ho, rfl⟩, hb2⟩
  obtain rfl := readN_one (callT_good _) ho reads_exit
  have HB2 := Lib.hid (below2 HB1.out hb2)
  clear hb2 ho
  go_wp2_with fail
  refine (nreadcall_any 3221225534 ⟨#[48, 120, 51, 99]⟩ _ (by decide) (by decide) (HTab.out.below HB2.out)).mono ?_
  rintro e w3 ⟨⟨o, ho, rfl⟩, hb3⟩
  obtain rfl := readN_one (callT_good _) ho reads_3c
  have HB3 := Lib.hid (below2 HB2.out hb3)
  clear hb3 ho
  go_wp2_with fail
  refine (naction_any 327681 _ (by decide) (HTab.out.below HB3.out)).mono ?_
  rintro e w4 ⟨rfl, hb4⟩
  rw [act_1, isA_1]
  have HB4 := Lib.hid (below2 HB3.out hb4)
  clear hb4
  go_wp2_with fail
  refine (ncall_any 3221225534 61 _ (by decide) (by decide) (HTab.out.below HB4.out)).mono ?_
  rintro e w5 ⟨rfl, hb5⟩
  rw [text_3d]
  have HB5 := Lib.hid (below2 HB4.out hb5)
  clear hb5
  go_wp2_with fail
  refine (nmachine_any 3221225534 _ (by decide) (HTab.out.below HB5.out)).mono ?_
  rintro e w6 ⟨rfl, hb6⟩
  rw [text_x64]
  have HB6 := Lib.hid (below2 HB5.out hb6)
  clear hb6
  go_wp2_with fail
  go_ret
  exact ⟨rfl, HB6.out⟩
/-- The last word of a law: the rows of examples. -/
theorem nknow_end {a w : World} (hb : Below a.heap.size a w) (ht : Tab a) : Calls Tryd.prog 14 #[] w fun e w' => e = .returned (.bool true) ∧ Below a.heap.size a w' :=
  (nknows_any w (ht.below hb)).mono fun _ _ ⟨he, h⟩ => ⟨he, below2 hb h⟩
end Go.Proofs.YtmijnhcbbklmaaaDoor
