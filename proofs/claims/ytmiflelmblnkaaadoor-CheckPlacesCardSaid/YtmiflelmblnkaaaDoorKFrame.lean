/-
  The rows of examples at the end of each law of package hurdlelaw05: knows() answers true in every world that has the table of the operations.
-/
import Derived.Test.YtmiflelmblnkaaaDoorKNext
import Derived.Test.YtmiflelmblnkaaaDoorCLit
import Derived.Test.YtmiflelmblnkaaaDoorCParse
import Derived.Test.YtmiflelmblnkaaaDoorIOf
import Derived.Laws.IdiomStrings
import Derived.Test.YtmiflelmblnkaaaDoorTabs
import Derived.Test.YtmiflelmblnkaaaDoorArgs
import Derived.Test.YtmiflelmblnkaaaDoorKRCheck
namespace Go.Proofs.YtmiflelmblnkaaaDoor
open Go.ChangeShapes Go.WideShapes Go.ChangeAt Go.RowKit
set_option maxRecDepth 20000

def exA : List X4 := [⟨32, 0, 0, 0⟩, ⟨6, 0, 0, 0⟩]
def exB : List X4 := [⟨32, 0, 0, 2⟩, ⟨6, 0, 0, 0⟩]
def exC : List X4 := [⟨5, 0, 0, 1⟩, ⟨6, 0, 0, 0⟩]
def exD : List X4 := [⟨7, 0, 0, 0⟩]
theorem ex_ret : lineX ⟨6, 0, 0, 0⟩ = [114, 101, 116, 32, 48, 120, 48, 10] := by
  show [114, 101, 116] ++ ((32 :: 48 :: 120 :: Wd.hex 0) ++ []) ++ [10] = _
  rw [Wd.hex_lt (by omega)]
  rfl
theorem ex_abs0 : lineX ⟨32, 0, 0, 0⟩ = [97, 98, 115, 32, 48, 120, 48, 10] := by
  show [97, 98, 115] ++ ((32 :: 48 :: 120 :: Wd.hex 0) ++ []) ++ [10] = _
  rw [Wd.hex_lt (by omega)]
  rfl
theorem ex_abs2 : lineX ⟨32, 0, 0, 2⟩ = [97, 98, 115, 32, 48, 120, 50, 10] := by
  show [97, 98, 115] ++ ((32 :: 48 :: 120 :: Wd.hex 2) ++ []) ++ [10] = _
  rw [Wd.hex_lt (by omega)]
  rfl
theorem ex_ja : lineX ⟨5, 0, 0, 1⟩ = [106, 97, 32, 48, 120, 49, 10] := by
  show [106, 97] ++ ((32 :: 48 :: 120 :: Wd.hex 1) ++ []) ++ [10] = _
  rw [Wd.hex_lt (by omega)]
  rfl
theorem exA_ok : ∀ x ∈ exA, x.ok := by unfold exA; intro x hx; simp at hx; rcases hx with rfl | rfl <;> simp [X4.ok]
theorem exB_ok : ∀ x ∈ exB, x.ok := by unfold exB; intro x hx; simp at hx; rcases hx with rfl | rfl <;> simp [X4.ok]
theorem exC_ok : ∀ x ∈ exC, x.ok := by unfold exC; intro x hx; simp at hx; rcases hx with rfl | rfl <;> simp [X4.ok]
theorem exD_ok : ∀ x ∈ exD, x.ok := by unfold exD; intro x hx; simp at hx; subst hx; simp [X4.ok]
theorem rdA : rdL [97, 98, 115, 32, 48, 120, 48, 10, 114, 101, 116, 32, 48, 120, 48, 10] = (exA, 0, 0) := by
  have h := rd_lines exA [] (by decide) exA_ok (by decide)
  rw [show exA.flatMap lineX = lineX ⟨32, 0, 0, 0⟩ ++ (lineX ⟨6, 0, 0, 0⟩ ++ []) from rfl, ex_abs0, ex_ret] at h
  exact h
theorem rdB : rdL [97, 98, 115, 32, 48, 120, 50, 10, 114, 101, 116, 32, 48, 120, 48, 10] = (exB, 0, 0) := by
  have h := rd_lines exB [] (by decide) exB_ok (by decide)
  rw [show exB.flatMap lineX = lineX ⟨32, 0, 0, 2⟩ ++ (lineX ⟨6, 0, 0, 0⟩ ++ []) from rfl, ex_abs2, ex_ret] at h
  exact h
theorem rdC : rdL [106, 97, 32, 48, 120, 49, 10, 114, 101, 116, 32, 48, 120, 48, 10] = (exC, 0, 0) := by
  have h := rd_lines exC [] (by decide) exC_ok (by decide)
  rw [show exC.flatMap lineX = lineX ⟨5, 0, 0, 1⟩ ++ (lineX ⟨6, 0, 0, 0⟩ ++ []) from rfl, ex_ja, ex_ret] at h
  exact h
theorem soundA : soundB exA = true := by decide
theorem checkB : CheckIs exB 0 6 := .inr (.inr (.inl ⟨by decide, by decide, 0, by decide, fun i hi => by omega, by decide, rfl, by decide⟩))
theorem checkC : CheckIs exC 0 4 := .inr (.inr (.inl ⟨by decide, by decide, 0, by decide, fun i hi => by omega, by decide, rfl, by decide⟩))
theorem checkD : CheckIs exD 0 5 := .inr (.inr (.inr (.inl ⟨by decide, by decide, fun i hi => by
  have : i = 0 := by simp [exD] at hi; exact hi
  subst this
  decide, by decide, rfl, rfl⟩)))
theorem nextA : nextX (exA[0]'(by decide)) (0 : Nat) = [1] := by decide

set_option maxHeartbeats 4000000 in
theorem kknows_any (w : World) (ht : OTab w) :
    Calls Tryd.prog 10 #[] w fun e w' => e = .returned (.bool true) ∧ Below w.heap.size w w' := by
  go_enter Tryd.func10, Tryd.ntmps10
  go_wp2_with fail
  refine (cparse_any ⟨#[97, 98, 115, 32, 48, 120, 48, 10, 114, 101, 116, 32, 48, 120, 48, 10]⟩ _ (by decide) ht).mono ?_
  rintro e w1 ⟨u1, rfl, hF1, hb1⟩
  rw [show (⟨#[97, 98, 115, 32, 48, 120, 48, 10, 114, 101, 116, 32, 48, 120, 48, 10]⟩ : ByteArray).data.toList = [97, 98, 115, 32, 48, 120, 48, 10, 114, 101, 116, 32, 48, 120, 48, 10] from rfl, rdA] at hF1 ⊢
  have HA1 := Lib.hid hF1
  have HB1 := Lib.hid hb1
  clear hF1 hb1
  go_wp2_with fail
  refine (cparse_any ⟨#[97, 98, 115, 32, 48, 120, 50, 10, 114, 101, 116, 32, 48, 120, 48, 10]⟩ _ (by decide) (ht.below HB1.out)).mono ?_
  rintro e w2 ⟨u2, rfl, hF2, hb2⟩
  rw [show (⟨#[97, 98, 115, 32, 48, 120, 50, 10, 114, 101, 116, 32, 48, 120, 48, 10]⟩ : ByteArray).data.toList = [97, 98, 115, 32, 48, 120, 50, 10, 114, 101, 116, 32, 48, 120, 48, 10] from rfl, rdB] at hF2 ⊢
  have HA2 := Lib.hid (HA1.out.below hb2)
  have HE2 := Lib.hid hF2
  have HB2 := Lib.hid (below2 HB1.out hb2)
  clear hF2 hb2 HA1 HB1
  go_wp2_with fail
  refine (cparse_any ⟨#[106, 97, 32, 48, 120, 49, 10, 114, 101, 116, 32, 48, 120, 48, 10]⟩ _ (by decide) (ht.below HB2.out)).mono ?_
  rintro e w3 ⟨u3, rfl, hF3, hb3⟩
  rw [show (⟨#[106, 97, 32, 48, 120, 49, 10, 114, 101, 116, 32, 48, 120, 48, 10]⟩ : ByteArray).data.toList = [106, 97, 32, 48, 120, 49, 10, 114, 101, 116, 32, 48, 120, 48, 10] from rfl, rdC] at hF3 ⊢
  have HA3 := Lib.hid (HA2.out.below hb3)
  have HE3 := Lib.hid (HE2.out.below hb3)
  have HG3 := Lib.hid hF3
  have HB3 := Lib.hid (below2 HB2.out hb3)
  clear hF3 hb3 HA2 HE2 HB2
  go_wp2_with fail
  refine (check_any _ _ _ HE3.out exB_ok (ht.below HB3.out)).mono ?_
  rintro e w4 ⟨p4, e4, hc4, rfl, hb4⟩
  obtain ⟨rfl, rfl⟩ := check_one hc4 checkB
  have HA4 := Lib.hid (HA3.out.below hb4)
  have HG4 := Lib.hid (HG3.out.below hb4)
  have HB4 := Lib.hid (below2 HB3.out hb4)
  clear hc4 hb4 HA3 HE3 HG3 HB3
  go_wp2_with fail
  refine (check_any _ _ _ HG4.out exC_ok (ht.below HB4.out)).mono ?_
  rintro e w5 ⟨p5, e5, hc5, rfl, hb5⟩
  obtain ⟨rfl, rfl⟩ := check_one hc5 checkC
  have HA5 := Lib.hid (HA4.out.below hb5)
  have HB5 := Lib.hid (below2 HB4.out hb5)
  clear hc5 hb5 HA4 HG4 HB4
  go_wp2_with fail
  have hb6 := ba (insB 7 0 0 0) (Below.refl w5.heap.size w5)
  have HB6 := Lib.hid (below2 HB5.out hb6)
  have HA6 := Lib.hid (HA5.out.below hb6)
  refine (check_any _ _ _ (FAt.lit w5 exD 36 1) exD_ok (ht.below HB6.out)).mono ?_
  rintro e w7 ⟨p7, e7, hc7, rfl, hb7⟩
  obtain ⟨rfl, rfl⟩ := check_one hc7 checkD
  have HA7 := Lib.hid (HA6.out.below hb7)
  have HB7 := Lib.hid (below2 HB6.out hb7)
  clear hc7 hb7 HA6 HB6 hb6 HA5 HB5
  go_wp2_with fail
  refine (sound_any _ _ _ HA7.out exA_ok (ht.below HB7.out)).mono ?_
  rintro e w8 ⟨rfl, hb8⟩
  rw [soundA]
  have HA8 := Lib.hid (HA7.out.below hb8)
  have HB8 := Lib.hid (below2 HB7.out hb8)
  clear hb8 HA7 HB7
  go_wp2_with fail
  refine (next_any _ exA 0 _ HA8.out exA_ok (ht.below HB8.out) (by decide) soundA).mono ?_
  rintro e w9 ⟨u9, rfl, hi9, hb9⟩
  rw [nextA] at hi9
  obtain ⟨ao9, cap9, rfl⟩ := hi9.shape
  have HB9 := Lib.hid (below2 HB8.out hb9)
  clear hb9 HA8 HB8 hi9
  go_wp2_with fail
  go_ret
  exact ⟨rfl, HB9.out⟩
end Go.Proofs.YtmiflelmblnkaaaDoor

/-
  The frame of each law's proof of package hurdlelaw05.
-/
namespace Go.Proofs.YtmiflelmblnkaaaDoor
open Go.ChangeShapes Go.WideShapes Go.ChangeAt Go.RowKit
/-- The last word of a law: the rows of examples. -/
theorem kknow_end {a w : World} (hb : Below a.heap.size a w) (ht : OTab a) : Calls Tryd.prog 10 #[] w fun e w' => e = .returned (.bool true) ∧ Below a.heap.size a w' :=
  (kknows_any w (ht.below hb)).mono fun _ _ ⟨he, h⟩ => ⟨he, below2 hb h⟩
end Go.Proofs.YtmiflelmblnkaaaDoor
