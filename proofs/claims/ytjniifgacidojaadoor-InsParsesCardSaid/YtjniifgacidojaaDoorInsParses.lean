/-
  For every text, in every world that has the tables of math/bits, of strconv and of package ins as their initialisers lay them: the law InsParses returns true and changes nothing that was there.
-/
import Derived.Test.YtjniifgacidojaaDoorIFrame
import Derived.Test.YtjniifgacidojaaDoorRParseW
namespace Go.Proofs.YtjniifgacidojaaDoor.insParses
open Go.ChangeShapes Go.WideShapes Go.ChangeAt Go.RowKit

/-- What the program and the document read of one text: the same. -/
theorem both {s : ByteArray} {e e' : Ending} (h : IParseEnd s e) (h' : RParseEnd s e') :
    (∃ (op jt jf k : Int), e = .returned (.tuple #[insV op jt jf k, .int .i64 0]) ∧ e' = .returned (.tuple #[insV op jt jf k, .bool true])) ∨
    (e = .returned (.tuple #[insV 0 0 0 0, .int .i64 2]) ∧ e' = .returned (.tuple #[insV 0 0 0 0, .bool false])) := by
  rcases h with ⟨r, a, b, c, hr, hf, hs, rfl⟩ | ⟨hno, rfl⟩
  · rcases h' with ⟨r', a', b', c', hr', hf', hs', rfl⟩ | ⟨hno', _⟩
    · obtain ⟨rfl, rfl, rfl, rfl⟩ := Ip.join_inj hr hr' hf hf' (by rw [← hs, hs', itxt_list])
      exact .inl ⟨_, _, _, _, rfl, rfl⟩
    · exact absurd (by apply ByteArray.ext; apply Array.ext'; rw [itxt_list, hs]) (hno' r a b c hr hf)
  · rcases h' with ⟨r', a', b', c', hr', hf', hs', rfl⟩ | ⟨_, rfl⟩
    · exact absurd (by rw [hs', itxt_list]) (hno r' a' b' c' hr' hf')
    · exact .inr ⟨rfl, rfl⟩

set_option maxHeartbeats 2000000 in
theorem walk (s : ByteArray) (w : World) (hs : s.size ≤ maxLen) (hT : Tab w) (ht : OTab w) :
    Calls Tryd.prog 4 #[.string s] w fun e w' => e = .returned (.bool true) ∧ Below w.heap.size w w' := by
  unfold maxLen at hs
  by_cases hl : 1000 < s.size
  · go_enter Tryd.func4, Tryd.ntmps4
    go_wp2_with fail
    refine (iknows_any _ hT ht).mono ?_
    rintro e w3 ⟨rfl, hb3⟩
    go_wp2_with fail
    go_ret
    exact ⟨rfl, hb3⟩
  · go_enter Tryd.func4, Tryd.ntmps4
    go_wp2_with fail
    refine (iparse_any s _ (by omega) ht).mono ?_
    rintro e w1 ⟨he1, hb1⟩
    obtain ⟨op, jt, jf, k, c, rfl⟩ : ∃ (op jt jf k c : Int), e = .returned (.tuple #[insV op jt jf k, .int .i64 c]) := by
      rcases he1 with ⟨r, a, b, c, _, _, _, rfl⟩ | ⟨_, rfl⟩
      · exact ⟨_, _, _, _, _, rfl⟩
      · exact ⟨_, _, _, _, _, rfl⟩
    have HE1 := Lib.hid he1
    have HB1 := Lib.hid (ba (insB op jt jf k) hb1)
    have HX1 : Hid ((w1.alloc (insB op jt jf k)).heap[w1.heap.size]? = some (insB op jt jf k)) := Lib.hid (heap_alloc_new _ _)
    clear he1 hb1
    go_wp2_with fail
    refine (rparse_any s _ (by omega)).mono ?_
    rintro e w2 ⟨he2, hb2⟩
    have hX2 := (hb2.block _ (lt_of_block HX1.out)).trans HX1.out
    have HB2 := Lib.hid (HB1.out.trans (hb2.mono HB1.out.size))
    have c0 : w2.cell? ⟨w1.heap.size, 0, none⟩ = some (.int .i64 op) := cell_in hX2 0
    have c1 : w2.cell? ⟨w1.heap.size, 1, none⟩ = some (.int .i64 jt) := cell_in hX2 1
    have c2 : w2.cell? ⟨w1.heap.size, 2, none⟩ = some (.int .i64 jf) := cell_in hX2 2
    have c3 : w2.cell? ⟨w1.heap.size, 3, none⟩ = some (.int .u32 k) := cell_in hX2 3
    have s2 := lt_of_block hX2
    clear hb2 hX2
    rcases both HE1.out he2 with ⟨op', jt', jf', k', h1, rfl⟩ | ⟨h1, rfl⟩
    · simp at h1
      obtain ⟨⟨rfl, rfl, rfl, rfl⟩, rfl⟩ := h1
      have HB3 := Lib.hid (ba (insB op jt jf k) HB2.out)
      clear he2
      go_wp2_with fail
      refine (iknows_any _ (hT.below HB3.out) (ht.below HB3.out)).mono ?_
      rintro e w4 ⟨rfl, hb4⟩
      go_wp2_with fail
      go_ret
      exact ⟨rfl, HB3.out.trans (hb4.mono HB3.out.size)⟩
    · simp at h1
      obtain ⟨⟨rfl, rfl, rfl, rfl⟩, rfl⟩ := h1
      have HB3 := Lib.hid (ba (insB 0 0 0 0) HB2.out)
      clear he2
      go_wp2_with fail
      refine (iknows_any _ (hT.below HB3.out) (ht.below HB3.out)).mono ?_
      rintro e w4 ⟨rfl, hb4⟩
      go_wp2_with fail
      go_ret
      exact ⟨rfl, HB3.out.trans (hb4.mono HB3.out.size)⟩

/-- The row's contract, for every argument and every world. -/
theorem contract (H : Type) (enc : TypeId × Value → H) (W : World) (base : Nat) (args : Array Value) (ds gs : List (DataW H)) (before : List MemPlace)
    (hval : ∀ (j : Nat) t v, Tryd.f4.params[j]? = some t → args[j]? = some v → Value.okWide Tryd.prog W .any base t v)
    (hW : DataW.Whole enc Tryd.prog Tryd.f4.params.toList Rows.insParsesSpec.vars false W args.toList ds gs before) (hL : laidMetH Tryd.prog Rows.insParsesRow.laid W) :
    Calls Tryd.prog 4 args W fun e W' => ∃ v, e = .returned v ∧ Rows.insParsesSpec.post enc Tryd.prog Tryd.f4 false true false false W args v W' := by
  have hW' := hW
  obtain ⟨p, q, hA0, hV, rfl, hfz, hnd⟩ := hW
  have hA : DataW.TrodAll enc Tryd.prog W 0 (fun _ => true) true Tryd.f4.params.toList args.toList ds p := hA0
  rw [Tryd.params4] at hA hval
  obtain ⟨v0, vs0, d0, ds0, p0, q0, hargs0, rfl, rfl, t0, r0⟩ := trodAll_cons hA
  obtain ⟨rfl, rfl, rfl⟩ := trodAll_nil r0
  obtain rfl : args = #[v0] := by cases args; simp_all
  obtain ⟨s, rfl, rfl, rfl, hs0⟩ := ChangeMaps.open_string Tryd.underlying9 (hval 0 9 v0 rfl rfl) t0
  refine (walk s W hs0 (tab_of hL) (otab_of hL)).mono fun e W' ⟨he, hg⟩ => ?_
  subst he
  exact ⟨_, rfl, law_post (tb := 4) laidOut (fun t ht => by rw [Tryd.params4] at ht; revert t; exact of_decide_eq_true (by kernel_rfl)) (by kernel_rfl) Tryd.underlying4 rfl
    (fun ds h => by rw [Tryd.params4] at h; match ds, h with | [_], _ => rfl) hW' hg⟩

theorem laid_met (os : Os) : laidMet Tryd.prog Rows.insParsesRow.laid ((laidWorld os).forCall (fun _ _ => 0) ⟨#[], #[.string ByteArray.empty], []⟩).memory :=
  laidMet_of_run' 8 (by kernel_rfl) (by kernel_rfl)
theorem reads (os : Os) {H : Type} (enc : TypeId × Value → H) : ∃ places, DataW.whole enc Tryd.prog ((laidWorld os).forCall (fun _ _ => 0) ⟨#[], #[.string ByteArray.empty], []⟩).memory Tryd.f4.params.toList Rows.insParsesSpec.vars false #[Value.string ByteArray.empty].toList 8 = some ([.lit (.string [])], [], places) :=
  ⟨[], by kernel_rfl⟩

set_option maxRecDepth 100000 in
theorem lifted (os : Os) (started : os.Started) (H : Type) (enc : TypeId × Value → H) (F : Stop.Interp) :
    ReturnsInHanded {} Tryd.checked os 4 .any ((OpenSpec.ofChange Rows.insParsesSpec).preRow enc Tryd.prog Tryd.f4 Rows.insParsesRow.domain false Rows.insParsesRow.laid) (((OpenSpec.ofChange Rows.insParsesSpec).at F).post enc Tryd.prog Tryd.f4 false true false false) := by
  obtain ⟨places, hx⟩ := reads os enc
  refine returnsInHanded_of_row (C := Tryd.checked) (s := OpenSpec.ofChange Rows.insParsesSpec) own started (by kernel_rfl) Tryd.func4
    (witness_row_at (enc := enc) (C := Tryd.checked) false (laidWorld os) #[.string ByteArray.empty] rfl (by kernel_rfl) (by kernel_rfl) (by kernel_rfl)
      (OpenSpec.preRow_of_cond 8 hx (by kernel_rfl) (fun k hk => by cases hk) (by kernel_rfl) (laid_met os))) ?_
  intro W base args ds gs before hval hW _ _ _ hL _ _
  exact contract H enc W base args ds gs before hval hW hL

theorem said : Rows.InsParsesSaid :=
  OpenClaim.holds_of_cond 4 Tryd.f4 rfl rfl rfl rfl rfl rfl rfl ⟨rfl, rfl, rfl, rfl, rfl⟩ rfl rfl rfl rfl rfl (by kernel_rfl) Tryd.func4 (by kernel_rfl)
    (of_decide_eq_true (by kernel_rfl)) (by unfold Func.isWrapper; first | (rw [if_pos (by decide +kernel)]; kernel_rfl) | (rw [if_neg (by decide +kernel)]; exact ⟨rfl, rfl⟩))
    (fun os started H enc _ F => by rw [OpenClaim.pre_eq_preRow]; exact lifted os started H enc F)

/-- No parameter wants a stand-in; the program's own looks are off. -/
theorem plain (f : FuncId) (fn : Func) (hf : Tryd.pinned.checked.prog.funcNamed "hurdle/hurdlelaw02.InsParses" = some f) (hfn : Tryd.pinned.checked.prog.funcs[f]? = some fn) :
    false = Tryd.pinned.checked.prog.looks [] ∧ ∀ (j : Nat) t, fn.params[j]? = some t → Tryd.pinned.checked.prog.wantsStandIn t = false := by
  obtain rfl : f = 4 := Option.some.inj ((show Tryd.prog.funcNamed "hurdle/hurdlelaw02.InsParses" = some 4 by kernel_rfl).symm.trans hf) |>.symm
  obtain rfl : fn = Tryd.f4 := (Option.some.inj (Tryd.func4.symm.trans hfn)).symm
  refine ⟨by kernel_rfl, fun j t ht => ?_⟩
  have hm := Array.mem_of_getElem? ht
  rw [Tryd.params4] at hm
  have all : ∀ t ∈ (#[9] : Array TypeId).toList, Tryd.prog.wantsStandIn t = false := of_decide_eq_true (by kernel_rfl)
  exact all t (Array.mem_toList_iff.2 hm)

/-- The tied card. -/
theorem card : Rows.InsParsesCardSaid :=
  Claim7.holds_tied_plain_at .later [] _ _ _ _ said (fun _ h => by cases h) (by kernel_rfl) (fun _ h => by cases h) insParses_row_tie rfl ⟨rfl, rfl⟩ (by kernel_rfl) rfl plain (by kernel_rfl)
end Go.Proofs.YtjniifgacidojaaDoor.insParses
