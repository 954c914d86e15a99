/-
  Rows of texts and numbers that the calls of package ins make: what ins.limits and ins.cut answer.
-/
import Derived.Test.YtmiflelmblnkaaaDoorIBy
namespace Ip
open Go
/-- The largest numbers of the fields that a format has. -/
def lims (f : Int) : List Nat := (if hasK f then [4294967295] else []) ++ (if hasJ f then [255, 255] else [])
theorem lims_len (f : Int) : (lims f).length ≤ 3 := by unfold lims; split <;> split <;> simp
end Ip
namespace Go.Proofs.YtmiflelmblnkaaaDoor
open Go.ChangeShapes Go.WideShapes Go.ChangeAt Go.RowKit

/-- Numbers as cells. -/
abbrev nums (l : List Nat) : List Value := l.map fun (n : Nat) => Value.int .u64 (n : Int)
theorem nums_one (l : List Nat) : ∀ u ∈ nums l, u.oneCell' = true := by
  intro u hu
  obtain ⟨n, _, rfl⟩ := List.mem_map.1 hu
  rfl
theorem info64 : (Tryd.prog.info? 53).map (fun i => (i.zero, i.size, i.bytes)) = some (some (.int .u64 0), 1, 8) := by kernel_rfl
theorem infoS : (Tryd.prog.info? 9).map (fun i => (i.zero, i.size, i.bytes)) = some (some (.string ⟨#[]⟩), 1, 16) := by kernel_rfl
/-- What comes of limits. -/
def LimEnd (f : Int) (w : World) (e : Ending) (w' : World) : Prop := ∃ v, e = .returned v ∧ w'.ownsRow w.heap.size 53 1 v (Ip.lims f).length (nums (Ip.lims f)) ∧ Below w.heap.size w w'
theorem limEnd {f : Int} {w w' : World} {v : Value} {l : List Nat} (h : Ip.lims f = l) (ho : w'.ownsRow w.heap.size 53 1 v l.length (nums l)) (hb : Below w.heap.size w w') : LimEnd f w (.returned v) w' := by
  subst h
  exact ⟨v, rfl, ho, hb⟩

set_option maxHeartbeats 1000000 in
theorem limits_any (o : Int) (s : ByteArray) (f : Int) (w : World) :
    Calls Tryd.prog 66 #[.agg #[.int .i64 o, .string s, .int .i64 f]] w fun e w' => LimEnd f w e w' := by
  obtain ⟨i0, hi, hz0, hz1, hz2⟩ := info_parts info64
  have hb1 := ba (.cells #[.int .i64 o, .string s, .int .i64 f] 76) (Below.refl w.heap.size w)
  have hb2 := ba (.cells #[.int .i64 o, .string s, .int .i64 f] 76) hb1
  have hb3 := ba (.cells #[.int .i64 o, .string s, .int .i64 f] 76) hb2
  have HB2 := Lib.hid hb2
  have HB3 := Lib.hid hb3
  have HX : Hid ((((w.alloc (.cells #[.int .i64 o, .string s, .int .i64 f] 76)).alloc (.cells #[.int .i64 o, .string s, .int .i64 f] 76)).heap[w.heap.size]?) = some (.cells #[.int .i64 o, .string s, .int .i64 f] 76)) :=
    Lib.hid ((Below.heap_alloc _ _ _ (by rw [size_alloc]; omega)).trans (heap_alloc_new _ _))
  clear hb1 hb2 hb3
  cases hK : Ip.hasK f
  · cases hJ : Ip.hasJ f
    · have HL := Lib.hid (show Ip.lims f = [] by unfold Ip.lims; rw [hK, hJ]; rfl)
      go_enter Tryd.func66, Tryd.ntmps66
      go_wp2_with fail
      refine (hasK_any _ _ _ _).mono ?_
      rintro e w1 ⟨rfl, rfl⟩
      go_wp2_with fail
      refine (hasJ_any _ _ _ _).mono ?_
      rintro e w1 ⟨rfl, rfl⟩
      go_wp2_with fail
      go_ret
      exact limEnd HL.out (World.ownsRow_nil _ _ _ _) HB3.out
    · have HL := Lib.hid (show Ip.lims f = [255, 255] by unfold Ip.lims; rw [hK, hJ]; rfl)
      go_enter Tryd.func66, Tryd.ntmps66
      go_wp2_with fail
      refine (hasK_any _ _ _ _).mono ?_
      rintro e w1 ⟨rfl, rfl⟩
      go_wp2_with fail
      refine (hasJ_any _ _ _ _).mono ?_
      rintro e w1 ⟨rfl, hw1⟩
      have hB1 := HB3.out
      rw [hw1] at hB1
      clear hw1
      go_wp2_with (at_builtin; refine wpList_append_own _ rfl _ _ 95 rfl w.heap.size 53 i0 (.int .u64 0) 1 8 Tryd.underlying95 hi hz0 hz1 hz2 rfl (by decide) _ _ _ rfl (World.ownsRow_nil _ _ _ _) ⟨w1.heap.size, 0, none⟩ 2 2 [.int .u64 255, .int .u64 255] rfl rfl (new_at w1 #[.int .u64 255, .int .u64 255] 53) (by decide) (by decide) (by decide) (by rw [size_alloc]; have := hB1.size; omega) ?_)
      intro v2 w2 hown hgrow _
      have hB2 := grown_below (ba _ hB1) (World.ownsRow_nil _ _ 53 1) hgrow (by rw [size_alloc]; have := hB1.size; omega)
      clear hgrow
      go_wp2_with fail
      go_ret
      exact limEnd HL.out hown hB2
  · have hhK := hK
    cases hJ : Ip.hasJ f
    · have HL := Lib.hid (show Ip.lims f = [4294967295] by unfold Ip.lims; rw [hK, hJ]; rfl)
      go_enter Tryd.func66, Tryd.ntmps66
      go_wp2_with fail
      refine (hasK_any _ _ _ _).mono ?_
      rintro e w1 ⟨rfl, hw1⟩
      have hB1 := HB2.out
      have hX1 := HX.out
      rw [hw1] at hB1 hX1
      have HX1 := Lib.hid hX1
      clear hw1 hX1
      go_wp2_with (at_builtin; refine wpList_append_own _ rfl _ _ 95 rfl w.heap.size 53 i0 (.int .u64 0) 1 8 Tryd.underlying95 hi hz0 hz1 hz2 rfl (by decide) _ _ _ rfl (World.ownsRow_nil _ _ _ _) ⟨w1.heap.size, 0, none⟩ 1 1 [.int .u64 4294967295] rfl rfl (new_at w1 #[.int .u64 4294967295] 53) (by decide) (by decide) (by decide) (by rw [size_alloc]; have := hB1.size; omega) ?_)
      intro v2 w2 hown hgrow _
      have hB2 := grown_below (ba _ hB1) (World.ownsRow_nil _ _ 53 1) hgrow (by rw [size_alloc]; have := hB1.size; omega)
      have hb12 := Below.grown (Below.refl _ _) hgrow (Nat.le_refl _) (fun k hk => by cases hk)
      have hX2 := (hb12.block _ (by rw [size_alloc]; have := lt_of_block HX1.out; omega)).trans ((Below.heap_alloc _ _ _ (lt_of_block HX1.out)).trans HX1.out)
      have c0 : w2.cell? ⟨w.heap.size, 0, none⟩ = some (.int .i64 o) := cell_in hX2 0
      have c1 : w2.cell? ⟨w.heap.size, 1, none⟩ = some (.string s) := cell_in hX2 1
      have c2 : w2.cell? ⟨w.heap.size, 2, none⟩ = some (.int .i64 f) := cell_in hX2 2
      clear hgrow hb12 hX2 hB1
      go_wp2_with fail
      refine (hasJ_any _ _ _ _).mono ?_
      rintro e w3 ⟨rfl, rfl⟩
      go_wp2_with fail
      go_ret
      exact limEnd HL.out (hown.alloc _) (ba _ hB2)
    · have HL := Lib.hid (show Ip.lims f = [4294967295, 255, 255] by unfold Ip.lims; rw [hK, hJ]; rfl)
      go_enter Tryd.func66, Tryd.ntmps66
      go_wp2_with fail
      refine (hasK_any _ _ _ _).mono ?_
      rintro e w1 ⟨rfl, hw1⟩
      have hB1 := HB2.out
      have hX1 := HX.out
      rw [hw1] at hB1 hX1
      have HX1 := Lib.hid hX1
      clear hw1 hX1
      go_wp2_with (at_builtin; refine wpList_append_own _ rfl _ _ 95 rfl w.heap.size 53 i0 (.int .u64 0) 1 8 Tryd.underlying95 hi hz0 hz1 hz2 rfl (by decide) _ _ _ rfl (World.ownsRow_nil _ _ _ _) ⟨w1.heap.size, 0, none⟩ 1 1 [.int .u64 4294967295] rfl rfl (new_at w1 #[.int .u64 4294967295] 53) (by decide) (by decide) (by decide) (by rw [size_alloc]; have := hB1.size; omega) ?_)
      intro v2 w2 hown hgrow _
      have hB2 := grown_below (ba _ hB1) (World.ownsRow_nil _ _ 53 1) hgrow (by rw [size_alloc]; have := hB1.size; omega)
      have hb12 := Below.grown (Below.refl _ _) hgrow (Nat.le_refl _) (fun k hk => by cases hk)
      have hX2 := (hb12.block _ (by rw [size_alloc]; have := lt_of_block HX1.out; omega)).trans ((Below.heap_alloc _ _ _ (lt_of_block HX1.out)).trans HX1.out)
      have c0 : w2.cell? ⟨w.heap.size, 0, none⟩ = some (.int .i64 o) := cell_in hX2 0
      have c1 : w2.cell? ⟨w.heap.size, 1, none⟩ = some (.string s) := cell_in hX2 1
      have c2 : w2.cell? ⟨w.heap.size, 2, none⟩ = some (.int .i64 f) := cell_in hX2 2
      clear hgrow hb12 hX2 hB1
      go_wp2_with fail
      refine (hasJ_any _ _ _ _).mono ?_
      rintro e w3 ⟨rfl, hw3⟩
      have hB3 := ba (.cells #[.int .i64 o, .string s, .int .i64 f] 76) hB2
      have hown3 := hown.alloc (.cells #[.int .i64 o, .string s, .int .i64 f] 76)
      rw [hw3] at hB3 hown3
      clear hw3 hown hB2 c0 c1 c2
      have HO3 := Lib.hid hown3
      clear hown3
      go_wp2_with (at_builtin; refine wpList_append_own _ rfl _ _ 95 rfl w.heap.size 53 i0 (.int .u64 0) 1 8 Tryd.underlying95 hi hz0 hz1 hz2 rfl (by decide) _ _ _ rfl (HO3.out.alloc _) ⟨w3.heap.size, 0, none⟩ 2 2 [.int .u64 255, .int .u64 255] rfl rfl (new_at w3 #[.int .u64 255, .int .u64 255] 53) (by decide) (by decide) (by decide) (by rw [size_alloc]; have := hB3.size; omega) ?_)
      intro v4 w4 hown4 hgrow4 _
      have hB4 := grown_below (ba _ hB3) (HO3.out.alloc _) hgrow4 (by rw [size_alloc]; have := hB3.size; omega)
      clear hgrow4
      go_wp2_with fail
      go_ret
      exact limEnd HL.out hown4 hB4
end Go.Proofs.YtmiflelmblnkaaaDoor
