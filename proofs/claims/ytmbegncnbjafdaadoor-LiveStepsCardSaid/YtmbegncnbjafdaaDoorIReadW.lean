/-
  What operation.read answers: its walk.
-/
import Derived.Test.YtmbegncnbjafdaaDoorIRead
import Derived.Test.YtmbegncnbjafdaaDoorICutW
import Derived.BigRegion
namespace Go.Proofs.YtmbegncnbjafdaaDoor
open Go.ChangeShapes Go.WideShapes Go.ChangeAt Go.RowKit
set_option maxRecDepth 20000

theorem nums_at (l : List Nat) (i : Nat) (h : i < l.length) : (nums l)[i]? = some (.int .u64 ((l.getD i 0 : Nat) : Int)) := by
  simp [List.getD, h]

abbrev zIns : Obj := .cells #[.int .i64 0, .int .i64 0, .int .i64 0, .int .u32 0] 24
abbrev opB2 (r : Ip.Row) : Obj := .cells #[.int .i64 r.op, .string r.str, .int .i64 r.fmt] 77

/-- Three new blocks, under one name. -/
theorem jump_world (wr : World) (X A B : Obj) : ∃ W, W = ((wr.alloc X).alloc A).alloc B ∧ W.heap[wr.heap.size]? = some X ∧ Below wr.heap.size wr W := by
  refine ⟨_, rfl, ?_, ba _ (ba _ (ba _ (Below.refl _ _)))⟩
  rw [Below.heap_alloc _ _ _ (by rw [size_alloc, size_alloc]; omega), Below.heap_alloc _ _ _ (by rw [size_alloc]; omega)]
  exact heap_alloc_new _ _

set_option maxHeartbeats 4000000 in
theorem read_any (r : Ip.Row) (fs : List (List UInt8)) (fv : Value) (w : World) (hS : Strs w fv fs) (hsz : ∀ x ∈ fs, x.length ≤ 4611686018427387904) (hln : fs.length ≤ 4611686018427387904) :
    Calls Tryd.prog 62 #[.agg #[.int .i64 r.op, .string r.str, .int .i64 r.fmt], fv] w fun e w' => ReadEnd r fs e ∧ Below w.heap.size w w' := by
  obtain ⟨i0, hi, hz0, hz1, hz2⟩ := info_parts info64
  obtain ⟨fa, fc, hfv⟩ := hS.shape
  have HS := Lib.hid hS
  have HZ := Lib.hid hsz
  have HFV := Lib.hid hfv
  rw [hfv]
  clear hfv hS hsz
  have hb0 := ba zIns (ba (opB2 r) (Below.refl w.heap.size w))
  have hX0 : ((w.alloc (opB2 r)).alloc zIns).heap[w.heap.size]? = some (opB2 r) := (Below.heap_alloc _ _ _ (by rw [size_alloc]; omega)).trans (heap_alloc_new _ _)
  have hR0 : ((w.alloc (opB2 r)).alloc zIns).heap[w.heap.size + 1]? = some zIns := by
    have h := heap_alloc_new (w.alloc (opB2 r)) zIns
    rwa [size_alloc] at h
  have HB0 := Lib.hid hb0
  have HX0 := Lib.hid hX0
  have HR0 := Lib.hid hR0
  clear hb0 hX0 hR0
  go_enter Tryd.func62, Tryd.ntmps62
  go_wp2_with fail
  refine (limits_any r.op r.str r.fmt _).mono ?_
  rintro e w1 ⟨vm, rfl, hown, hB⟩
  obtain ⟨am, cm, rfl⟩ := own_shape hown
  have hX1 := (hB.block _ (lt_of_block HX0.out)).trans HX0.out
  have hR1 := (hB.block _ (lt_of_block HR0.out)).trans HR0.out
  have hB1 := HB0.out.trans (hB.mono HB0.out.size)
  have hll := Ip.lims_len r.fmt
  have s1 := lt_of_block hR1
  have r0 : w1.cell? ⟨w.heap.size + 1, 0, none⟩ = some (.int .i64 0) := cell_in hR1 0
  have r1 : w1.cell? ⟨w.heap.size + 1, 1, none⟩ = some (.int .i64 0) := cell_in hR1 1
  have r2 : w1.cell? ⟨w.heap.size + 1, 2, none⟩ = some (.int .i64 0) := cell_in hR1 2
  have r3 : w1.cell? ⟨w.heap.size + 1, 3, none⟩ = some (.int .u32 0) := cell_in hR1 3
  have f0 := free_in hR1 0
  have f1 := free_in hR1 1
  have f2 := free_in hR1 2
  have f3 := free_in hR1 3
  have HX1 := Lib.hid hX1
  have HR1 := Lib.hid hR1
  have HB1 := Lib.hid hB1
  have HO1 := Lib.hid hown
  clear hX1 hR1 hB1 hown hB
  by_cases hlen : fs.length = (Ip.lims r.fmt).length
  · have hne : ((fs.length : Int) != ((Ip.lims r.fmt).length : Int)) = false := by simp; omega
    have HLn := Lib.hid hlen
    clear hlen r0 r1 r2 r3 f0 f1 f2 f3
    go_wp2_with fail
    go_loopw [7, 23] (fun v i w' => ∃ (k : Nat) (ns : List Nat), k ≤ fs.length ∧ i = .int .i64 k ∧ Ip.Got r.fmt fs k ns ∧ w'.ownsRow w1.heap.size 43 1 v k (nums ns) ∧ Below w1.heap.size w1 w') (fun _ i _ => fs.length - (intOf i).toNat)
    case atStart => exact ⟨0, [], by omega, rfl, Ip.Got.start _ _, World.ownsRow_nil _ _ _ _, Below.refl _ _⟩
    case round =>
      obtain ⟨k, ns, hk, rfl, hG, hO, hBr⟩ := hrel
      have HG := Lib.hid hG
      have HO := Lib.hid hO
      have HBr := Lib.hid hBr
      clear hG hO hBr
      by_cases hlt : k < fs.length
      · obtain ⟨gm, cm', hvm, hgm0, hgm, hcm, hMc⟩ := own_cells HO1.out (by have := HLn.out; omega)
        obtain ⟨rfl, rfl⟩ : am = some ⟨gm, 0, none⟩ ∧ cm = cm' := by
          injection hvm with h1 h2 h3
          exact ⟨h1, h3⟩
        rcases HS.out with ⟨h0, _⟩ | ⟨g, off, c, hv, hc, hg, hFc⟩
        · rw [h0] at hlt
          exact absurd hlt (by simp)
        obtain ⟨rfl, rfl⟩ : fa = some ⟨g, off, none⟩ ∧ fc = c := by
          have h := HFV.out.symm.trans hv
          injection h with h1 h2 h3
          exact ⟨h1, h3⟩
        have hF : wr.cell? ⟨g, off + k, none⟩ = some (.string ⟨fs[k].toArray⟩) := by
          rw [HBr.out.cell (p := ⟨g, off + k, none⟩) (Nat.lt_of_lt_of_le hg HB1.out.size), HB1.out.cell (p := ⟨g, off + k, none⟩) hg]
          exact hFc k hlt
        have hlk : k < (Ip.lims r.fmt).length := by have := HLn.out; omega
        have hM1 : w1.cell? ⟨gm, k, none⟩ = some (.int .u64 (((Ip.lims r.fmt).getD k 0 : Nat) : Int)) := hMc k _ (nums_at _ k hlk)
        have hzz : (⟨fs[k].toArray⟩ : ByteArray).size ≤ 4611686018427387904 := HZ.out _ (List.getElem_mem hlt)
        have HM1 := Lib.hid hM1
        have hs64 : (Ip.lims r.fmt).getD k 0 ≤ 4294967295 := by
          unfold Ip.lims
          cases Ip.hasK r.fmt <;> cases Ip.hasJ r.fmt <;> rcases k with _ | _ | _ | k <;> simp
        clear hvm hMc hv hFc hM1
        have hnlk : (k : Int) < ((Ip.lims r.fmt).length : Int) := by omega
        go_wp2_with fail
        refine (parse_any _ _ hzz).mono ?_
        rintro e w2 ⟨he, hB2⟩
        have hB12 := HBr.out.trans (hB2.mono HBr.out.size)
        have hBw2 := HB1.out.trans (hB12.mono HB1.out.size)
        have hM2 : w2.cell? ⟨gm, k, none⟩ = some (.int .u64 (((Ip.lims r.fmt).getD k 0 : Nat) : Int)) := (hB12.cell (p := ⟨gm, k, none⟩) hgm).trans HM1.out
        have hR2 := (hB12.block _ (lt_of_block HR1.out)).trans HR1.out
        have s2 := lt_of_block hR2
        have HB12 := Lib.hid hB12
        have HBw2 := Lib.hid hBw2
        have HR2 := Lib.hid hR2
        have HO2 := Lib.hid (own_below HO.out hB2)
        clear hB12 hBw2 hB2 hF
        rcases he with ⟨n, hn, hs, rfl⟩ | ⟨hno, rfl⟩
        · have hfk : fs[k] = Ip.tx n := by
            have e2 := congrArg (fun b : ByteArray => b.data.toList) hs
            simpa [Wd.txt, Ip.tx] using e2
          generalize hL : (Ip.lims r.fmt).getD k 0 = L at *
          by_cases hle : n ≤ L
          · have HN := Lib.hid (HG.out.next hlt hfk (by rw [hL]; exact hle))
            clear hR2 hs hfk hL
            go_wp2_with (at_builtin; refine wpList_append_own _ rfl _ _ 110 rfl w1.heap.size 43 i0 (.int .u64 0) 1 8 Tryd.underlying110 hi hz0 hz1 hz2 rfl (by decide) _ _ _ rfl (HO2.out.alloc _) ⟨w2.heap.size, 0, none⟩ 1 1 [.int .u64 n] rfl rfl (new_at w2 #[.int .u64 n] 43) (by simp [Value.oneCell']) (by unfold maxLen; omega) (by omega) (by rw [size_alloc]; have := HB12.out.size; omega) ?_)
            intro v3 w3 hown3 hgrow3 _
            have hB3 := grown_below (HB12.out.alloc HB12.out.size (.cells #[.int .u64 n] 43)) (HO2.out.alloc _) hgrow3 (by rw [size_alloc]; have := HB12.out.size; omega)
            clear hgrow3
            go_wp2_with fail
            refine ⟨⟨k + 1, ns ++ [n], by omega, by go_num, HN.out, ?_, hB3⟩, by simp [intOf]; omega⟩
            simpa using hown3
          · have HE := Lib.hid (read_bad (r := r) hlt (fun m hm => by rw [hL]; have := Ip.tx_inj (hfk.symm.trans hm); omega))
            have r0 : w2.cell? ⟨w.heap.size + 1, 0, none⟩ = some (.int .i64 0) := cell_in hR2 0
            have r1 : w2.cell? ⟨w.heap.size + 1, 1, none⟩ = some (.int .i64 0) := cell_in hR2 1
            have r2 : w2.cell? ⟨w.heap.size + 1, 2, none⟩ = some (.int .i64 0) := cell_in hR2 2
            have r3 : w2.cell? ⟨w.heap.size + 1, 3, none⟩ = some (.int .u32 0) := cell_in hR2 3
            have f0 := free_in hR2 0
            have f1 := free_in hR2 1
            have f2 := free_in hR2 2
            have f3 := free_in hR2 3
            clear hR2 hs hfk hL
            go_wp2_with fail
            (try simp only [Exit.inBlock, Exit.then])
            refine bodyPost_ret (v := .tuple #[.agg #[.int .i64 0, .int .i64 0, .int .i64 0, .int .u32 0], .bool false]) ?_ rfl ⟨HE.out, ?_⟩
            · rw [results_cell_tmp rfl]
              go_simp
            · have hB := HBw2.out
              go_grown
        · have HE := Lib.hid (read_bad (r := r) hlt (fun m hm => by
            by_cases h64 : m < 18446744073709551616
            · exact absurd (show (⟨fs[k].toArray⟩ : ByteArray) = Wd.txt m by rw [hm]; rfl) (hno m h64)
            · omega))
          have r0 : w2.cell? ⟨w.heap.size + 1, 0, none⟩ = some (.int .i64 0) := cell_in hR2 0
          have r1 : w2.cell? ⟨w.heap.size + 1, 1, none⟩ = some (.int .i64 0) := cell_in hR2 1
          have r2 : w2.cell? ⟨w.heap.size + 1, 2, none⟩ = some (.int .i64 0) := cell_in hR2 2
          have r3 : w2.cell? ⟨w.heap.size + 1, 3, none⟩ = some (.int .u32 0) := cell_in hR2 3
          have f0 := free_in hR2 0
          have f1 := free_in hR2 1
          have f2 := free_in hR2 2
          have f3 := free_in hR2 3
          clear hR2 hno hs64 hM2
          go_wp2_with fail
          (try simp only [Exit.inBlock, Exit.then])
          refine bodyPost_ret (v := .tuple #[.agg #[.int .i64 0, .int .i64 0, .int .i64 0, .int .u32 0], .bool false]) ?_ rfl ⟨HE.out, ?_⟩
          · rw [results_cell_tmp rfl]
            go_simp
          · have hB := HBw2.out
            go_grown
      · have hke : k = fs.length := by omega
        have hXr := (HBr.out.block _ (lt_of_block HX1.out)).trans HX1.out
        have hRr := (HBr.out.block _ (lt_of_block HR1.out)).trans HR1.out
        have b0 : wr.cell? ⟨w.heap.size, 0, none⟩ = some (.int .i64 r.op) := cell_in hXr 0
        have b1 : wr.cell? ⟨w.heap.size, 1, none⟩ = some (.string r.str) := cell_in hXr 1
        have b2 : wr.cell? ⟨w.heap.size, 2, none⟩ = some (.int .i64 r.fmt) := cell_in hXr 2
        have r0 : wr.cell? ⟨w.heap.size + 1, 0, none⟩ = some (.int .i64 0) := cell_in hRr 0
        have r1 : wr.cell? ⟨w.heap.size + 1, 1, none⟩ = some (.int .i64 0) := cell_in hRr 1
        have r2 : wr.cell? ⟨w.heap.size + 1, 2, none⟩ = some (.int .i64 0) := cell_in hRr 2
        have r3 : wr.cell? ⟨w.heap.size + 1, 3, none⟩ = some (.int .u32 0) := cell_in hRr 3
        have f0 := free_in hRr 0
        have f1 := free_in hRr 1
        have f2 := free_in hRr 2
        have f3 := free_in hRr 3
        have sr := lt_of_block hRr
        have sx := lt_of_block hXr
        have hBw := HB1.out.trans (HBr.out.mono HB1.out.size)
        have HBw := Lib.hid hBw
        clear hXr hRr hBw
        cases hK : Ip.hasK r.fmt
        · cases hJ : Ip.hasJ r.fmt
          · have HE := Lib.hid (read_FF HG.out hke HLn.out hK hJ)
            clear hke
            go_wp2_with fail
            refine (hasK_any _ _ _ _).mono ?_
            rintro e w3 ⟨rfl, rfl⟩
            go_wp2_with fail
            refine (hasJ_any _ _ _ _).mono ?_
            rintro e w3 ⟨rfl, rfl⟩
            go_wp2_with fail
            (try simp only [Exit.inBlock, Exit.then])
            refine bodyPost_ret (v := .tuple #[.agg #[.int .i64 r.op, .int .i64 0, .int .i64 0, .int .u32 0], .bool true]) ?_ rfl ⟨HE.out, ?_⟩
            · rw [results_cell_tmp rfl]
              go_simp
            · have hB := HBw.out
              go_grown
          · obtain ⟨a, b, rfl, ha, hb, hE⟩ := read_FT HG.out hke HLn.out hK hJ
            have HE := Lib.hid hE
            obtain ⟨g7, c7, rfl, hg70, hg7, hn7, hc7⟩ := own_cells HO.out (by have := HG.out.1; simp at this; omega)
            have q0 : wr.cell? ⟨g7, 0, none⟩ = some (.int .u64 a) := hc7 0 _ rfl
            have q1 : wr.cell? ⟨g7, 1, none⟩ = some (.int .u64 b) := hc7 1 _ rfl
            have hk1 : k = 2 := by have := HG.out.1; simp at this; omega
            clear hke hc7 hE
            subst hk1
            go_wp2_with fail
            refine (hasK_any _ _ _ _).mono ?_
            rintro e w3 ⟨rfl, rfl⟩
            go_wp2_with fail
            refine (hasJ_any _ _ _ _).mono ?_
            rintro e w3 ⟨rfl, rfl⟩
            go_wp2_with fail
            obtain ⟨W, hW, hWx, hWb⟩ := jump_world wr (.cells #[.int .i64 r.op, .int .i64 0, .int .i64 0, .int .u32 0] 24) (opB2 r) (opB2 r)
            rw [← hW]
            have p0 := (hWb.cell (p := ⟨g7, 0, none⟩) hg7).trans q0
            have p1 := (hWb.cell (p := ⟨g7, 1, none⟩) hg7).trans q1
            have x0 : W.cell? ⟨wr.heap.size, 0, none⟩ = some (.int .i64 r.op) := cell_in hWx 0
            have x1 : W.cell? ⟨wr.heap.size, 1, none⟩ = some (.int .i64 0) := cell_in hWx 1
            have x2 : W.cell? ⟨wr.heap.size, 2, none⟩ = some (.int .i64 0) := cell_in hWx 2
            have x3 : W.cell? ⟨wr.heap.size, 3, none⟩ = some (.int .u32 0) := cell_in hWx 3
            have t0 := (hWb.cell (p := ⟨w.heap.size + 1, 0, none⟩) sr).trans r0
            have t1 := (hWb.cell (p := ⟨w.heap.size + 1, 1, none⟩) sr).trans r1
            have t2 := (hWb.cell (p := ⟨w.heap.size + 1, 2, none⟩) sr).trans r2
            have t3 := (hWb.cell (p := ⟨w.heap.size + 1, 3, none⟩) sr).trans r3
            have z0 := (hWb.frozen (p := ⟨w.heap.size + 1, 0, none⟩) sr).trans f0
            have z1 := (hWb.frozen (p := ⟨w.heap.size + 1, 1, none⟩) sr).trans f1
            have z2 := (hWb.frozen (p := ⟨w.heap.size + 1, 2, none⟩) sr).trans f2
            have z3 := (hWb.frozen (p := ⟨w.heap.size + 1, 3, none⟩) sr).trans f3
            have y1 := free_in hWx 1
            have y2 := free_in hWx 2
            have hzr := lt_of_block hWx
            have hBW := HBw.out.trans (hWb.mono HBw.out.size)
            have HBW := Lib.hid hBW
            have hle := HBw.out.size
            clear hW hWx hWb hBW
            go_region
            all_goals go_wp2_with fail
            all_goals (try simp only [Exit.inBlock, Exit.then])
            all_goals refine bodyPost_ret (v := .tuple #[.agg #[.int .i64 r.op, .int .i64 a, .int .i64 b, .int .u32 0], .bool true]) ?_ rfl ⟨HE.out, ?_⟩
            all_goals first | (rw [results_cell_tmp rfl]; go_simp; done) | skip
            all_goals
              have hB := HBW.out
              go_grown
        · cases hJ : Ip.hasJ r.fmt
          · obtain ⟨c, rfl, hc, hE⟩ := read_TF HG.out hke HLn.out hK hJ
            have HE := Lib.hid hE
            obtain ⟨g7, c7, rfl, hg70, hg7, hn7, hc7⟩ := own_cells HO.out (by have := HG.out.1; simp at this; omega)
            have q0 : wr.cell? ⟨g7, 0, none⟩ = some (.int .u64 c) := hc7 0 _ rfl
            have hk1 : k = 1 := by have := HG.out.1; simp at this; omega
            clear hke hc7 hE
            subst hk1
            rcases Nat.eq_or_lt_of_le hn7 with rfl | hcap
            all_goals
              go_wp2_with fail
              refine (hasK_any _ _ _ _).mono ?_
              rintro e w3 ⟨rfl, rfl⟩
              go_wp2_with fail
              refine (hasJ_any _ _ _ _).mono ?_
              rintro e w3 ⟨rfl, rfl⟩
              go_wp2_with fail
              (try simp only [Exit.inBlock, Exit.then])
              refine bodyPost_ret (v := .tuple #[.agg #[.int .i64 r.op, .int .i64 0, .int .i64 0, .int .u32 c], .bool true]) ?_ rfl ⟨HE.out, ?_⟩
              · rw [results_cell_tmp rfl]
                go_simp
              · have hB := HBw.out
                go_grown
          · obtain ⟨c, a, b, rfl, hc, ha, hb, hE⟩ := read_TT HG.out hke HLn.out hK hJ
            have HE := Lib.hid hE
            obtain ⟨g7, c7, rfl, hg70, hg7, hn7, hc7⟩ := own_cells HO.out (by have := HG.out.1; simp at this; omega)
            have q0 : wr.cell? ⟨g7, 0, none⟩ = some (.int .u64 c) := hc7 0 _ rfl
            have q1 : wr.cell? ⟨g7, 1, none⟩ = some (.int .u64 a) := hc7 1 _ rfl
            have q2 : wr.cell? ⟨g7, 2, none⟩ = some (.int .u64 b) := hc7 2 _ rfl
            have hk1 : k = 3 := by have := HG.out.1; simp at this; omega
            clear hke hc7 hE
            subst hk1
            have hcap : ¬ c7 = 1 := by omega
            go_wp2_with fail
            refine (hasK_any _ _ _ _).mono ?_
            rintro e w3 ⟨rfl, rfl⟩
            go_wp2_with fail
            refine (hasJ_any _ _ _ _).mono ?_
            rintro e w3 ⟨rfl, rfl⟩
            go_wp2_with fail
            obtain ⟨W, hW, hWx, hWb⟩ := jump_world wr (.cells #[.int .i64 r.op, .int .i64 0, .int .i64 0, .int .u32 c] 24) (opB2 r) (opB2 r)
            rw [← hW]
            have p0 := (hWb.cell (p := ⟨g7, 0, none⟩) hg7).trans q0
            have p1 := (hWb.cell (p := ⟨g7, 1, none⟩) hg7).trans q1
            have p2 := (hWb.cell (p := ⟨g7, 2, none⟩) hg7).trans q2
            have x0 : W.cell? ⟨wr.heap.size, 0, none⟩ = some (.int .i64 r.op) := cell_in hWx 0
            have x1 : W.cell? ⟨wr.heap.size, 1, none⟩ = some (.int .i64 0) := cell_in hWx 1
            have x2 : W.cell? ⟨wr.heap.size, 2, none⟩ = some (.int .i64 0) := cell_in hWx 2
            have x3 : W.cell? ⟨wr.heap.size, 3, none⟩ = some (.int .u32 c) := cell_in hWx 3
            have t0 := (hWb.cell (p := ⟨w.heap.size + 1, 0, none⟩) sr).trans r0
            have t1 := (hWb.cell (p := ⟨w.heap.size + 1, 1, none⟩) sr).trans r1
            have t2 := (hWb.cell (p := ⟨w.heap.size + 1, 2, none⟩) sr).trans r2
            have t3 := (hWb.cell (p := ⟨w.heap.size + 1, 3, none⟩) sr).trans r3
            have z0 := (hWb.frozen (p := ⟨w.heap.size + 1, 0, none⟩) sr).trans f0
            have z1 := (hWb.frozen (p := ⟨w.heap.size + 1, 1, none⟩) sr).trans f1
            have z2 := (hWb.frozen (p := ⟨w.heap.size + 1, 2, none⟩) sr).trans f2
            have z3 := (hWb.frozen (p := ⟨w.heap.size + 1, 3, none⟩) sr).trans f3
            have y1 := free_in hWx 1
            have y2 := free_in hWx 2
            have hzr := lt_of_block hWx
            have hBW := HBw.out.trans (hWb.mono HBw.out.size)
            have HBW := Lib.hid hBW
            have hle := HBw.out.size
            clear hW hWx hWb hBW
            go_region
            all_goals go_wp2_with fail
            all_goals (try simp only [Exit.inBlock, Exit.then])
            all_goals refine bodyPost_ret (v := .tuple #[.agg #[.int .i64 r.op, .int .i64 a, .int .i64 b, .int .u32 c], .bool true]) ?_ rfl ⟨HE.out, ?_⟩
            all_goals first | (rw [results_cell_tmp rfl]; go_simp; done) | skip
            all_goals
              have hB := HBW.out
              go_grown
  · have hne : ((fs.length : Int) != ((Ip.lims r.fmt).length : Int)) = true := by simp; omega
    have HE := Lib.hid (read_len hlen)
    clear hlen
    go_wp2_with fail
    (try simp only [Exit.inBlock, Exit.then])
    refine bodyPost_ret (v := .tuple #[.agg #[.int .i64 0, .int .i64 0, .int .i64 0, .int .u32 0], .bool false]) ?_ rfl ⟨HE.out, ?_⟩
    · rw [results_cell_tmp rfl]
      go_simp
    · have hB := HB1.out
      go_grown
end Go.Proofs.YtmbegncnbjafdaaDoor
