/-
  The document's own Low (package hurdleref04).
-/
import Derived.Test.YtlklgifpdneolaaDLeaf
namespace Go.Proofs.Ytlklgifpdneolaa
open Go.ChangeShapes Go.WideShapes Go.ChangeAt Go.RowKit
set_option maxRecDepth 20000

theorem rlow_any (n : Int) (w : World) :
    Calls Try.prog 15 #[.int .i64 n] w fun e w' => e = .returned (.int .u32 (argAt n 0)) ∧ w = w' := by
  by_cases h0 : n < 0
  · go_enter Try.func15, Try.ntmps15
    go_wp2
    all_goals go_ret
    all_goals refine ⟨retU32 ?_, rfl⟩
    exact (argAt_out (.inl h0)).symm
  · by_cases h1 : n < 6
    · go_enter Try.func15, Try.ntmps15
      go_wp2
      all_goals go_ret
      all_goals refine ⟨retU32 ?_, rfl⟩
      rw [argAt_in (by omega) (by omega)]
      omega
    · go_enter Try.func15, Try.ntmps15
      go_wp2
      all_goals go_ret
      all_goals refine ⟨retU32 ?_, rfl⟩
      exact (argAt_out (.inr (by omega))).symm
end Go.Proofs.Ytlklgifpdneolaa
