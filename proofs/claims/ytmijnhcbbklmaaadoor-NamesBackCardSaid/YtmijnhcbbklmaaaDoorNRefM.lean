/-
  What the document's functions of machines and calls answer (package hurdleref09).
-/
import Derived.Test.YtmijnhcbbklmaaaDoorNRef
namespace Go.Proofs.YtmijnhcbbklmaaaDoor
open Go.ChangeShapes Go.WideShapes Go.ChangeAt Go.RowKit
set_option maxRecDepth 20000

/-- Two slices: names and numbers. -/
def TblEnd (T : Tbl) (w' : World) (e : Ending) : Prop := ∃ a b, e = .returned (.tuple #[a, b]) ∧ SAt w' a (nmC T) ∧ SAt w' b (noC T)
theorem tblEnd {T : Tbl} {w' : World} {a b : Value} (ha : SAt w' a (nmC T)) (hb : SAt w' b (noC T)) : TblEnd T w' (.returned (.tuple #[a, b])) := ⟨a, b, rfl, ha, hb⟩
def m4 : Array Value := (nmC machT).toArray
def n4 : Array Value := (noC machT).toArray
theorem m4_lit : (#[.string ⟨#[120, 54, 52]⟩, .string ⟨#[120, 56, 54]⟩, .string ⟨#[97, 54, 52]⟩, .string ⟨#[97, 114, 109]⟩] : Array Value) = m4 := rfl
theorem n4_lit : (#[.int .u32 3221225534, .int .u32 1073741827, .int .u32 3221225655, .int .u32 1073741864] : Array Value) = n4 := rfl
theorem rmachines_any (w : World) :
    Calls Tryd.prog 27 #[] w fun e w' => e = .returned (.tuple #[.slice (some ⟨w.heap.size, 0, none⟩) 4 4, .slice (some ⟨w.heap.size + 1, 0, none⟩) 4 4]) ∧ w' = (w.alloc (.cells m4 9)).alloc (.cells n4 22) := by
  have h1 := m4_lit
  have h2 := n4_lit
  go_enter Tryd.func27, Tryd.ntmps27
  go_wp2_with fail
  go_ret2
  exact ⟨rfl, rfl⟩
theorem rmach_any (w : World) :
    Calls Tryd.prog 27 #[] w fun e w' => TblEnd machT w' e ∧ Below w.heap.size w w' := by
  refine (rmachines_any w).mono ?_
  rintro e w' ⟨rfl, rfl⟩
  refine ⟨tblEnd ?_ ?_, ba _ (ba _ (Below.refl _ _))⟩
  · have h := heap_alloc_new w (.cells m4 9)
    exact (SAt.lit h).below (ba _ (Below.refl _ _))
  · have h := heap_alloc_new (w.alloc (.cells m4 9)) (.cells n4 22)
    rw [size_alloc] at h
    exact SAt.lit h
theorem rmachine_any (n : Nat) (w : World) (hn : n < 4294967296) :
    Calls Tryd.prog 11 #[.int .u32 n] w fun e w' => e = .returned (.string (textN machT n)) ∧ Below w.heap.size w w' := by
  go_enter Tryd.func11, Tryd.ntmps11
  go_wp2_with fail
  refine (rmach_any _).mono ?_
  rintro e w1 ⟨⟨a, b, rfl, ha, hb⟩, hb1⟩
  have HA := Lib.hid ha
  have HB := Lib.hid hb
  have HB1 := Lib.hid hb1
  clear ha hb hb1
  go_wp2_with fail
  refine (rtext9_any machT a b n _ HA.out HB.out hn (by decide)).mono ?_
  rintro e w2 ⟨rfl, hb2⟩
  have HB2 := Lib.hid (below2 HB1.out hb2)
  clear hb2
  go_wp2_with fail
  go_ret
  exact ⟨rfl, HB2.out⟩
theorem rreadmachine_any (s : ByteArray) (w : World) (hs : s.size ≤ 4611686018427387904) :
    Calls Tryd.prog 16 #[.string s] w fun e w' => RNEnd machT s e ∧ Below w.heap.size w w' := by
  go_enter Tryd.func16, Tryd.ntmps16
  go_wp2_with fail
  refine (rmach_any _).mono ?_
  rintro e w1 ⟨⟨a, b, rfl, ha, hb⟩, hb1⟩
  have HA := Lib.hid ha
  have HB := Lib.hid hb
  have HB1 := Lib.hid hb1
  clear ha hb hb1
  go_wp2_with fail
  refine (rread9_any machT machT_good a b s _ HA.out HB.out hs (by decide)).mono ?_
  rintro e w2 ⟨⟨o, ho, rfl⟩, hb2⟩
  have HO := Lib.hid ho
  have HB2 := Lib.hid (below2 HB1.out hb2)
  clear hb2 ho
  go_wp2_with fail
  go_ret2
  exact ⟨⟨o, HO.out, rfl⟩, HB2.out⟩
end Go.Proofs.YtmijnhcbbklmaaaDoor
