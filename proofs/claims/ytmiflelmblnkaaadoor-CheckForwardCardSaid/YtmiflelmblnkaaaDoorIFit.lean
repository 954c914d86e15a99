/-
  The small tests on an operation (package ins): hasK, hasJumps, isJump, fits; behind.
-/
import Derived.Test.YtmiflelmblnkaaaDoorTxt
import Derived.Test.YtmiflelmblnkaaaDoorIPlain
namespace Go.Proofs.YtmiflelmblnkaaaDoor
open Go.ChangeShapes Go.WideShapes Go.ChangeAt Go.RowKit
set_option maxRecDepth 20000

theorem hasK_any (o : Int) (s : ByteArray) (f : Int) (w : World) :
    Calls Tryd.prog 52 #[.agg #[.int .i64 o, .string s, .int .i64 f]] w fun e w' => e = .returned (.bool (Ip.hasK f)) ∧ w.alloc (Obj.cells #[.int .i64 o, .string s, .int .i64 f] 76) = w' := by
  go_enter Tryd.func52, Tryd.ntmps52
  go_wp2
  all_goals go_ret
  all_goals refine ⟨ret1 ?_, ?_⟩
  all_goals simp_all [Ip.hasK]
theorem hasJ_any (o : Int) (s : ByteArray) (f : Int) (w : World) :
    Calls Tryd.prog 47 #[.agg #[.int .i64 o, .string s, .int .i64 f]] w fun e w' => e = .returned (.bool (Ip.hasJ f)) ∧ w.alloc (Obj.cells #[.int .i64 o, .string s, .int .i64 f] 76) = w' := by
  go_enter Tryd.func47, Tryd.ntmps47
  go_wp2
  all_goals go_ret
  all_goals refine ⟨ret1 ?_, ?_⟩
  all_goals simp_all [Ip.hasJ]
theorem isJ_any (n : Int) (w : World) :
    Calls Tryd.prog 62 #[.int .i64 n] w fun e w' => e = .returned (.bool (Ip.isJ n)) ∧ w = w' := by
  go_enter Tryd.func62, Tryd.ntmps62
  go_wp2
  all_goals go_ret
  all_goals refine ⟨ret1 ?_, rfl⟩
  all_goals simp_all [Ip.isJ]
  omega

set_option maxHeartbeats 2000000 in
theorem fits_any (o : Int) (s : ByteArray) (f op jt jf k : Int) (w : World) :
    Calls Tryd.prog 51 #[.agg #[.int .i64 o, .string s, .int .i64 f], .agg #[.int .i64 op, .int .i64 jt, .int .i64 jf, .int .u32 k]] w fun e w' => e = .returned (.bool (Ip.fits f jt jf k)) ∧ Below w.heap.size w w' := by
  have HG : Hid (Ip.fits f jt jf k = ((Ip.hasK f || !(k != 0)) && (if Ip.hasJ f then Ip.isJ jt && Ip.isJ jf else jt == 0 && jf == 0))) := Lib.hid (by simp [Ip.fits, bne])
  have go : ∀ (bK bk bJ bz bi : Bool), Ip.hasK f = bK → (k != 0) = bk → Ip.hasJ f = bJ → (jt == 0) = bz → Ip.isJ jt = bi →
      Calls Tryd.prog 51 #[.agg #[.int .i64 o, .string s, .int .i64 f], .agg #[.int .i64 op, .int .i64 jt, .int .i64 jf, .int .u32 k]] w fun e w' => e = .returned (.bool ((bK || !bk) && (if bJ then bi && Ip.isJ jf else bz && jf == 0))) ∧ Below w.heap.size w w' := by
    clear HG
    intro bK bk bJ bz bi hK hk hJ hz hi
    cases bK <;> cases bk <;> cases bJ <;> cases bz <;> cases bi
    all_goals
      go_enter Tryd.func51, Tryd.ntmps51
      go_wp2_with (first
        | (go_at_call 52; refine (hasK_any o s f _).mono ?_; rintro e w' ⟨rfl, rfl⟩)
        | (go_at_call 47; refine (hasJ_any o s f _).mono ?_; rintro e w' ⟨rfl, rfl⟩)
        | (go_at_call 62; refine (isJ_any _ _).mono ?_; rintro e w' ⟨rfl, rfl⟩))
      go_ret
      refine ⟨ret1 (by simp), ?_⟩
      repeat (first | exact Below.refl _ _ | apply ba)
  refine (go _ _ _ _ _ rfl rfl rfl rfl rfl).mono ?_
  rintro e w' ⟨rfl, hb⟩
  exact ⟨ret1 HG.out.symm, hb⟩

theorem behind_any (n : Nat) (w : World) (hn : n < 18446744073709551616) (ht : Tab w) :
    Calls Tryd.prog 53 #[.int .u64 n] w fun e w' => e = .returned (.string ⟨(32 :: 48 :: 120 :: Wd.hex n).toArray⟩) ∧ Below w.heap.size w w' := by
  have hl := Wd.hex_len16 n hn
  have hz : (Wd.txt n).size = (Wd.hex n).length + 2 := by show (48 :: 120 :: Wd.hex n).length = _; simp
  go_enter Tryd.func53, Tryd.ntmps53
  go_wp2_with (go_at_call 63; refine (text_any n _ hn ht).mono ?_; rintro e w' ⟨rfl, hb⟩)
  go_ret
  exact ⟨congrArg (fun s => Ending.returned (.string s)) (Wd.joined [32] (48 :: 120 :: Wd.hex n)), hb⟩
end Go.Proofs.YtmiflelmblnkaaaDoor
