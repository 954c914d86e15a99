/-
  What ins.Parse answers, for any text, in every world that has the table of the operations: the instruction whose text it is, or ErrForm.
-/
import Derived.Test.YtmbegncnbjafdaaDoorIReadW
import Derived.Test.YtmbegncnbjafdaaDoorAluP
import Derived.Test.YtmbegncnbjafdaaDoorIAlu
import Derived.Deep.RegionHeld3
namespace Go.Proofs.YtmbegncnbjafdaaDoor
open Go.ChangeShapes Go.WideShapes Go.ChangeAt Go.RowKit
set_option maxRecDepth 20000

/-- What comes of reading a text. -/
def IParseEnd (s : ByteArray) (e : Ending) : Prop :=
  (∃ (r : Ip.Row) (jt jf k : Nat), r ∈ Ip.rows ∧ Ip.Fine r.fmt jt jf k ∧ s.data.toList = Ip.join (Ip.partsOf r jt jf k) ∧ e = .returned (.tuple #[.agg #[.int .i64 r.op, .int .i64 jt, .int .i64 jf, .int .u32 k], .int .i64 0])) ∨
  ((∀ (r : Ip.Row) (jt jf k : Nat), r ∈ Ip.rows → Ip.Fine r.fmt jt jf k → s.data.toList ≠ Ip.join (Ip.partsOf r jt jf k)) ∧ e = .returned (.tuple #[.agg #[.int .i64 0, .int .i64 0, .int .i64 0, .int .u32 0], .int .i64 2]))
theorem cut_ne (s : ByteArray) : ∃ x l, Ip.sp 4 [] s.data.toList = x :: l := by
  cases h : Ip.sp 4 [] s.data.toList with
  | nil => exact absurd h (Ip.sp_ne _ _ _)
  | cons x l => exact ⟨x, l, rfl⟩
theorem iparse_word {s : ByteArray} {x : List UInt8} {l : List (List UInt8)} (h : Ip.sp 4 [] s.data.toList = x :: l) (hn : Ip.byWord ⟨x.toArray⟩ = none) :
    IParseEnd s (.returned (.tuple #[.agg #[.int .i64 0, .int .i64 0, .int .i64 0, .int .u32 0], .int .i64 2])) := by
  refine .inr ⟨fun r jt jf k hr hf e => ?_, rfl⟩
  rw [e, Ip.parts_cut hr] at h
  have hx : r.word = x := (List.cons.inj h).1
  rw [Ip.byWord_row hr (s := ⟨x.toArray⟩) (by simpa using hx.symm)] at hn
  cases hn
theorem iparse_read {s : ByteArray} {x : List UInt8} {l : List (List UInt8)} {r : Ip.Row} {e : Ending} (h : Ip.sp 4 [] s.data.toList = x :: l) (hr : Ip.byWord ⟨x.toArray⟩ = some r) (he : ReadEnd r l e) :
    (∃ jt jf k : Nat, e = .returned (.tuple #[.agg #[.int .i64 r.op, .int .i64 jt, .int .i64 jf, .int .u32 k], .bool true]) ∧ IParseEnd s (.returned (.tuple #[.agg #[.int .i64 r.op, .int .i64 jt, .int .i64 jf, .int .u32 k], .int .i64 0]))) ∨
    (e = .returned (.tuple #[.agg #[.int .i64 0, .int .i64 0, .int .i64 0, .int .u32 0], .bool false]) ∧ IParseEnd s (.returned (.tuple #[.agg #[.int .i64 0, .int .i64 0, .int .i64 0, .int .u32 0], .int .i64 2]))) := by
  obtain ⟨hm, hw⟩ := Ip.byWord_word hr
  have hw' : r.word = x := by simpa using hw
  rcases he with ⟨jt, jf, k, hf, hl, rfl⟩ | ⟨hno, rfl⟩
  · refine .inl ⟨jt, jf, k, rfl, .inl ⟨r, jt, jf, k, hm, hf, ?_, rfl⟩⟩
    have hj := Ip.join_sp s.data.toList 4 []
    rw [h] at hj
    rw [List.nil_append] at hj
    rw [← hj, Ip.partsOf, hw', hl]
  · refine .inr ⟨rfl, .inr ⟨fun r' jt jf k hr' hf e => ?_, rfl⟩⟩
    rw [e, Ip.parts_cut hr'] at h
    have hx := List.cons.inj h
    obtain rfl := Ip.word_inj r hm r' hr' (hw'.trans hx.1.symm)
    exact hno jt jf k hf hx.2.symm

theorem iparse_got {s : ByteArray} {x : List UInt8} {l : List (List UInt8)} {r : Ip.Row} {op jt jf k : Int} {b : Bool} (h : Ip.sp 4 [] s.data.toList = x :: l) (hr : Ip.byWord ⟨x.toArray⟩ = some r)
    (he : ReadEnd r l (.returned (.tuple #[.agg #[.int .i64 op, .int .i64 jt, .int .i64 jf, .int .u32 k], .bool b]))) :
    (b = true ∧ IParseEnd s (.returned (.tuple #[.agg #[.int .i64 op, .int .i64 jt, .int .i64 jf, .int .u32 k], .int .i64 0]))) ∨
    (b = false ∧ IParseEnd s (.returned (.tuple #[.agg #[.int .i64 0, .int .i64 0, .int .i64 0, .int .u32 0], .int .i64 2]))) := by
  rcases iparse_read h hr he with ⟨jt', jf', k', h1, h2⟩ | ⟨h1, h2⟩
  · simp at h1
    obtain ⟨⟨rfl, rfl, rfl, rfl⟩, rfl⟩ := h1
    exact .inl ⟨rfl, h2⟩
  · simp at h1
    exact .inr ⟨h1.2, h2⟩
/-- What read hands back, its parts under names. -/
theorem read_got (r : Ip.Row) (fs : List (List UInt8)) (fv : Value) (w : World) (hS : Strs w fv fs) (hsz : ∀ x ∈ fs, x.length ≤ 4611686018427387904) (hln : fs.length ≤ 4611686018427387904) :
    Calls Tryd.prog 62 #[.agg #[.int .i64 r.op, .string r.str, .int .i64 r.fmt], fv] w fun e w' => ∃ (op jt jf k : Int) (b : Bool), e = .returned (.tuple #[.agg #[.int .i64 op, .int .i64 jt, .int .i64 jf, .int .u32 k], .bool b]) ∧ Hid (ReadEnd r fs (.returned (.tuple #[.agg #[.int .i64 op, .int .i64 jt, .int .i64 jf, .int .u32 k], .bool b]))) ∧ Below w.heap.size w w' := by
  refine (read_any r fs fv w hS hsz hln).mono ?_
  rintro e w' ⟨he, hb⟩
  rcases id he with ⟨jt, jf, k, _, _, rfl⟩ | ⟨_, rfl⟩
  · exact ⟨_, _, _, _, _, rfl, Lib.hid he, hb⟩
  · exact ⟨_, _, _, _, _, rfl, Lib.hid he, hb⟩
/-- The fields' slice, in every world that has grown. -/
theorem strs_of {w1 W : World} {g c : Nat} {l : List (List UInt8)} (hB : Below w1.heap.size w1 W) (hg : g < w1.heap.size) (hln : l.length + 1 ≤ c) (hq : ∀ i (h : i < l.length), w1.cell? ⟨g, 1 + i, none⟩ = some (.string ⟨l[i].toArray⟩)) :
    Strs W (.slice (some ⟨g, 1, none⟩) l.length (c - 1)) l :=
  .inr ⟨g, 1, c - 1, rfl, by omega, Nat.lt_of_lt_of_le hg hB.size, fun i h => (hB.cell (p := ⟨g, 1 + i, none⟩) hg).trans (hq i h)⟩

theorem slice_tail (g c n : Nat) (h : n + 1 ≤ c) : ∃ v, (∀ W, (Instr.slice 93 (.slice (some ⟨g, 0, none⟩) (n + 1) c) (some (.int .i64 1)) none none).run Tryd.prog W = .ok v W) ∧ ((n = 0 ∧ ∃ a cc, v = .slice a 0 cc) ∨ v = .slice (some ⟨g, 1, none⟩) n (c - 1)) := by
  by_cases hc1 : c = 1
  · subst hc1
    obtain rfl : n = 0 := by omega
    refine ⟨.slice (some ⟨g, 0, none⟩) 0 0, fun W => ?_, .inl ⟨rfl, _, _, rfl⟩⟩
    go_simp
  · refine ⟨_, fun W => ?_, .inr rfl⟩
    go_simp
    intro hh
    omega
/-- read, in a world that has grown: what it hands back, and what stays. -/
theorem read_here {r : Ip.Row} {l : List (List UInt8)} {fv : Value} {W W' : World} (hS : ∀ V, Below W.heap.size W V → Strs V fv l) (hsz : ∀ x ∈ l, x.length ≤ 4611686018427387904) (hln : l.length ≤ 4611686018427387904) (hW : Below W.heap.size W W') :
    Calls Tryd.prog 62 #[.agg #[.int .i64 r.op, .string r.str, .int .i64 r.fmt], fv] W' fun e w' => ∃ (op jt jf k : Int) (b : Bool), e = .returned (.tuple #[.agg #[.int .i64 op, .int .i64 jt, .int .i64 jf, .int .u32 k], .bool b]) ∧ Hid (ReadEnd r l (.returned (.tuple #[.agg #[.int .i64 op, .int .i64 jt, .int .i64 jf, .int .u32 k], .bool b]))) ∧ Below W.heap.size W w' ∧ Below W'.heap.size W' w' := by
  refine (read_got r l fv W' (hS W' hW) hsz hln).mono ?_
  rintro e w' ⟨op, jt, jf, k, b, rfl, hE, hb⟩
  exact ⟨op, jt, jf, k, b, rfl, hE, hW.trans (hb.mono hW.size), hb⟩

set_option maxHeartbeats 2000000 in
theorem iparse_any (s : ByteArray) (w : World) (hs : s.size ≤ 4611686018427387904) (ht : OTab w) :
    Calls Tryd.prog 45 #[.string s] w fun e w' => IParseEnd s e ∧ Below w.heap.size w w' := by
  obtain ⟨x, l, hx⟩ := cut_ne s
  have HX := Lib.hid hx
  clear hx
  have hb0 := ba zIns (Below.refl w.heap.size w)
  have hR0 : (w.alloc zIns).heap[w.heap.size]? = some zIns := heap_alloc_new _ _
  have HB0 := Lib.hid hb0
  have HR0 := Lib.hid hR0
  clear hb0 hR0
  go_enter Tryd.func45, Tryd.ntmps45
  go_wp2_with fail
  refine (cut_any s _ hs).mono ?_
  rintro e w1 ⟨v, rfl, hown, hB⟩
  rw [HX.out] at hown
  obtain ⟨g, c, rfl, hg0, hg, hn, hc⟩ := own_cells hown (by simp)
  have hR1 := (hB.block _ (lt_of_block HR0.out)).trans HR0.out
  have hB1 := HB0.out.trans (hB.mono HB0.out.size)
  have ht1 := ht.below hB1
  have q0 : w1.cell? ⟨g, 0, none⟩ = some (.string ⟨x.toArray⟩) := hc 0 _ rfl
  have hq : ∀ i (h : i < l.length), w1.cell? ⟨g, 1 + i, none⟩ = some (.string ⟨l[i].toArray⟩) := fun i h => by
    rw [Nat.add_comm]
    exact hc (i + 1) _ (by simp [h])
  have hln : l.length + 1 ≤ c := hn
  have s1 := lt_of_block hR1
  have HQ := Lib.hid hq
  have HR1 := Lib.hid hR1
  have HB1 := Lib.hid hB1
  clear hown hn hc hq hR1 hB1 hB
  go_wp2_with fail
  refine (byWord_any _ _ ht1).mono ?_
  rintro e w2 ⟨r, b, rfl, hr, hbb, hB2⟩
  have hR2 := (hB2.block _ (lt_of_block HR1.out)).trans HR1.out
  have hBw2 := HB1.out.trans (hB2.mono HB1.out.size)
  have s2 := lt_of_block hR2
  have r0 : w2.cell? ⟨w.heap.size, 0, none⟩ = some (.int .i64 0) := cell_in hR2 0
  have r1 : w2.cell? ⟨w.heap.size, 1, none⟩ = some (.int .i64 0) := cell_in hR2 1
  have r2 : w2.cell? ⟨w.heap.size, 2, none⟩ = some (.int .i64 0) := cell_in hR2 2
  have r3 : w2.cell? ⟨w.heap.size, 3, none⟩ = some (.int .u32 0) := cell_in hR2 3
  have f0 := free_in hR2 0
  have f1 := free_in hR2 1
  have f2 := free_in hR2 2
  have f3 := free_in hR2 3
  have HR2 := Lib.hid hR2
  have HBw2 := Lib.hid hBw2
  have HB2 := Lib.hid hB2
  refine have HR : Hid (r = _) := Lib.hid hr; ?_
  have HBB := Lib.hid hbb
  clear hR2 hBw2 hB2 hr hbb
  cases b
  · have HE := Lib.hid (iparse_word HX.out (by simpa using HBB.out.symm))
    go_wp2_with fail
    (try simp only [Exit.inBlock, Exit.then])
    refine bodyPost_ret (v := .tuple #[.agg #[.int .i64 0, .int .i64 0, .int .i64 0, .int .u32 0], .int .i64 2]) ?_ rfl ⟨HE.out, ?_⟩
    · rw [results_cell_tmp rfl]
      go_simp
    · have hB := HBw2.out
      go_grown
  · have hby : Ip.byWord ⟨x.toArray⟩ = some r := by
      have h1 := HBB.out
      have h2 := HR.out
      cases h : Ip.byWord ⟨x.toArray⟩ with
      | none => rw [h] at h1; cases h1
      | some r' => rw [h] at h2; rw [h2]; rfl
    have HY := Lib.hid hby
    clear hby r0 r1 r2 r3 f0 f1 f2 f3
    have hSz : ∀ y ∈ l, y.length ≤ 4611686018427387904 := fun y hy => by
      have h1 := Ip.sp_mem s.data.toList 4 [] y (by rw [HX.out]; exact List.mem_cons_of_mem _ hy)
      have h2 : s.data.toList.length = s.size := rfl
      simp at h1
      simp at h2
      omega
    have HSz := Lib.hid hSz
    have hle : l.length ≤ 4611686018427387904 := by
      have h := Ip.sp_len s.data.toList 4 []
      rw [HX.out] at h
      simp at h
      omega
    obtain ⟨fv, hfv, hfs⟩ := slice_tail g c l.length hln
    obtain ⟨W, hW, hWo, hWb⟩ : ∃ W, W = w2.alloc (opB2 r) ∧ W.heap[w2.heap.size]? = some (opB2 r) ∧ Below w2.heap.size w2 W := ⟨_, rfl, heap_alloc_new _ _, ba _ (Below.refl _ _)⟩
    have hWr := (hWb.block _ s2).trans HR2.out
    have r0 : W.cell? ⟨w.heap.size, 0, none⟩ = some (.int .i64 0) := cell_in hWr 0
    have r1 : W.cell? ⟨w.heap.size, 1, none⟩ = some (.int .i64 0) := cell_in hWr 1
    have r2 : W.cell? ⟨w.heap.size, 2, none⟩ = some (.int .i64 0) := cell_in hWr 2
    have r3 : W.cell? ⟨w.heap.size, 3, none⟩ = some (.int .u32 0) := cell_in hWr 3
    have f0 := free_in hWr 0
    have f1 := free_in hWr 1
    have f2 := free_in hWr 2
    have f3 := free_in hWr 3
    have o0 : W.cell? ⟨w2.heap.size, 0, none⟩ = some (.int .i64 r.op) := cell_in hWo 0
    have o1 : W.cell? ⟨w2.heap.size, 1, none⟩ = some (.string r.str) := cell_in hWo 1
    have o2 : W.cell? ⟨w2.heap.size, 2, none⟩ = some (.int .i64 r.fmt) := cell_in hWo 2
    have sW := lt_of_block hWo
    have sr := lt_of_block hWr
    have nW : W.heap.size ≠ w2.heap.size := by omega
    have HWb := Lib.hid (HB2.out.trans (hWb.mono HB2.out.size))
    have HBW := Lib.hid (HBw2.out.trans (hWb.mono HBw2.out.size))
    have HS : Hid (∀ V, Below W.heap.size W V → Strs V fv l) := Lib.hid fun V hV => by
      have hV' := HWb.out.trans (hV.mono HWb.out.size)
      rcases hfs with ⟨h0, a, cc, rfl⟩ | rfl
      · exact .inl ⟨List.length_eq_zero_iff.1 h0, a, cc, rfl⟩
      · exact strs_of hV' hg hln HQ.out
    clear hWo hWb hWr hfs hSz
    go_wp2_with fail
    rw [← hW]
    clear hW
    go_region_held3 (fun w' => w'.cell? ⟨w2.heap.size, 0, none⟩ = some (.int .i64 r.op) ∧ w'.cell? ⟨w2.heap.size, 1, none⟩ = some (.string r.str) ∧ w'.cell? ⟨w2.heap.size, 2, none⟩ = some (.int .i64 r.fmt)) (first | exact ⟨a0, a1, a2⟩ | go_keep)
      (first | (go_at_call 62; refine (read_here HS.out HSz.out hle ?_).mono ?_; (have hB := Below.refl W.heap.size W; go_grown); rintro e w3 ⟨op, jt, jf, k, b, rfl, HRE, hB3, hb3⟩; obtain ⟨hc3, hf3⟩ := bcell hb3; have a0 := (hB3.cell (p := ⟨w2.heap.size, 0, none⟩) sW).trans o0; have a1 := (hB3.cell (p := ⟨w2.heap.size, 1, none⟩) sW).trans o1; have a2 := (hB3.cell (p := ⟨w2.heap.size, 2, none⟩) sW).trans o2; have nW3 : w3.heap.size ≠ w2.heap.size := (by have := hB3.size; omega)))
    all_goals
      have e0 := (hB3.cell (p := ⟨w.heap.size, 0, none⟩) sr).trans r0
      have e1 := (hB3.cell (p := ⟨w.heap.size, 1, none⟩) sr).trans r1
      have e2 := (hB3.cell (p := ⟨w.heap.size, 2, none⟩) sr).trans r2
      have e3 := (hB3.cell (p := ⟨w.heap.size, 3, none⟩) sr).trans r3
      have z0 := (hB3.frozen (p := ⟨w.heap.size, 0, none⟩) sr).trans f0
      have z1 := (hB3.frozen (p := ⟨w.heap.size, 1, none⟩) sr).trans f1
      have z2 := (hB3.frozen (p := ⟨w.heap.size, 2, none⟩) sr).trans f2
      have z3 := (hB3.frozen (p := ⟨w.heap.size, 3, none⟩) sr).trans f3
      have nr : W.heap.size ≠ w.heap.size := by omega
      have nr3 : w3.heap.size ≠ w.heap.size := by have := hB3.size; omega
      have HB3 := Lib.hid (HBW.out.trans (hB3.mono HBW.out.size))
      have sBW := HBW.out.size
      have sB3 := hB3.size
      have s3 : w.heap.size < w3.heap.size := by omega
      rcases iparse_got HX.out HY.out HRE.out with ⟨rfl, hE⟩ | ⟨rfl, hE⟩
      · have HE := Lib.hid hE
        clear hE hB3 hb3
        go_wp2_with fail
        (try simp only [Exit.inBlock, Exit.then])
        refine bodyPost_ret (v := .tuple #[.agg #[.int .i64 op, .int .i64 jt, .int .i64 jf, .int .u32 k], .int .i64 0]) ?_ rfl ⟨HE.out, ?_⟩
        · rw [results_cell_tmp rfl]
          go_simp
        · have hB := HB3.out
          clear hc3 hf3
          go_grown
      · have HE := Lib.hid hE
        clear hE hB3 hb3
        go_wp2_with fail
        (try simp only [Exit.inBlock, Exit.then])
        refine bodyPost_ret (v := .tuple #[.agg #[.int .i64 0, .int .i64 0, .int .i64 0, .int .u32 0], .int .i64 2]) ?_ rfl ⟨HE.out, ?_⟩
        · rw [results_cell_tmp rfl]
          go_simp
        · have hB := HB3.out
          clear hc3 hf3
          go_grown
end Go.Proofs.YtmbegncnbjafdaaDoor
