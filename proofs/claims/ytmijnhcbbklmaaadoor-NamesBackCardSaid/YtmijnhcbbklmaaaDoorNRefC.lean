/-
  What the document's Calls answers (package hurdleref09).
-/
import Derived.Test.YtmijnhcbbklmaaaDoorNRefM
import Derived.Deep.Cut
namespace Go.Proofs.YtmijnhcbbklmaaaDoor
open Go.ChangeShapes Go.WideShapes Go.ChangeAt Go.RowKit
set_option maxRecDepth 20000

/-- Rows that hold cells of two types lie in two blocks. -/
theorem own_apart {w : World} {base base' : Nat} {e e' : TypeId} {s s' : Nat} {v v' : Value} {n n' : Nat} {xs xs' : List Value} (h : w.ownsRow base e s v n xs) (h' : w.ownsRow base' e' s' v' n' xs') (hne : e ≠ e') : v'.ownBlock = none ∨ v'.ownBlock ≠ v.ownBlock := by
  rcases h.2 with ⟨rfl, _⟩ | ⟨g, c, cur, rfl, _, hh, _⟩ <;> rcases h'.2 with ⟨rfl, _⟩ | ⟨g', c', cur', rfl, _, hh', _⟩
  · exact .inl rfl
  · exact .inr (by simp [Value.ownBlock])
  · exact .inl rfl
  · refine .inr fun e1 => ?_
    have e1 : g' = g := by simpa [Value.ownBlock] using e1
    subst e1
    rw [hh] at hh'
    simp at hh'
    exact hne hh'.2
theorem al_old {w : World} (o : Obj) {k : Nat} {x : Obj} (h : w.heap[k]? = some x) : (w.alloc o).heap[k]? = some x := (Below.heap_alloc w o k (lt_of_block h)).trans h
theorem al_new (w : World) (o : Obj) {k : Nat} (h : w.heap.size = k) : (w.alloc o).heap[k]? = some o := by subst h; exact heap_alloc_new w o
theorem six_al (w : World) (o0 o1 o2 o3 o4 o5 : Obj) : ∃ W, W = (((((w.alloc o0).alloc o1).alloc o2).alloc o3).alloc o4).alloc o5 ∧ W.heap.size = w.heap.size + 6 ∧ Below w.heap.size w W ∧ W.heap[w.heap.size]? = some o0 ∧ W.heap[w.heap.size + 1]? = some o1 ∧ W.heap[w.heap.size + 2]? = some o2 ∧ W.heap[w.heap.size + 3]? = some o3 ∧ W.heap[w.heap.size + 4]? = some o4 ∧ W.heap[w.heap.size + 5]? = some o5 := by
  refine ⟨_, rfl, by simp only [size_alloc], ba _ (ba _ (ba _ (ba _ (ba _ (ba _ (Below.refl _ _)))))), ?_, ?_, ?_, ?_, ?_, ?_⟩
  · exact al_old _ (al_old _ (al_old _ (al_old _ (al_old _ (al_new _ _ rfl)))))
  · exact al_old _ (al_old _ (al_old _ (al_old _ (al_new _ _ (by simp only [size_alloc])))))
  · exact al_old _ (al_old _ (al_old _ (al_new _ _ (by simp only [size_alloc]))))
  · exact al_old _ (al_old _ (al_new _ _ (by simp only [size_alloc])))
  · exact al_old _ (al_new _ _ (by simp only [size_alloc]))
  · exact al_new _ _ (by simp only [size_alloc])
def nameN (k : Nat) : ByteArray := [bread, bwrite, bopen, bclose, bexit, bfork, bkill, bmmap].getD k bread
def machN (i : Nat) : Nat := [3221225534, 1073741827, 3221225655, 1073741864].getD i 0
def rowN (i k : Nat) : Nat := ([[0, 1, 2, 3, 60, 57, 62, 9], [3, 4, 5, 6, 1, 2, 37, 90], [63, 64, 1000000, 57, 93, 1000000, 129, 222], [3, 4, 5, 6, 1, 2, 37, 1000000]].getD i []).getD k 0
def nm8 : Array Value := #[.string bread, .string bwrite, .string bopen, .string bclose, .string bexit, .string bfork, .string bkill, .string bmmap]
def row8 (i : Nat) : Array Value := ((List.range 8).map fun k => Value.int .u32 (rowN i k : Nat)).toArray
def rows4 (g : Nat) : Array Value := #[.slice (some ⟨g + 1, 0, none⟩) 8 8, .slice (some ⟨g + 1 + 1, 0, none⟩) 8 8, .slice (some ⟨g + 1 + 1 + 1, 0, none⟩) 8 8, .slice (some ⟨g + 1 + 1 + 1 + 1, 0, none⟩) 8 8]
/-- What one place of a row gives. -/
def pickR (n i k : Nat) : Tbl := if machN i = n ∧ rowN i k ≠ 1000000 then [(nameN k, rowN i k)] else []
def selIn (n i : Nat) : Nat → Tbl
  | 0 => []
  | k + 1 => selIn n i k ++ pickR n i k
def selR (n : Nat) : Nat → Tbl
  | 0 => []
  | i + 1 => selR n i ++ selIn n i 8
theorem four_nat {i : Nat} (h : i < 4) : i = 0 ∨ i = 1 ∨ i = 2 ∨ i = 3 := by omega
theorem eight_nat {i : Nat} (h : i < 8) : i = 0 ∨ i = 1 ∨ i = 2 ∨ i = 3 ∨ i = 4 ∨ i = 5 ∨ i = 6 ∨ i = 7 := by omega
theorem sel_off {n i : Nat} (h : machN i ≠ n) : ∀ k, selIn n i k = []
  | 0 => rfl
  | k + 1 => by
    show selIn n i k ++ pickR n i k = []
    rw [sel_off h k]
    unfold pickR
    rw [if_neg (fun e => h e.1)]
    rfl
theorem selR_all (n : Nat) : selR n 4 = callT n := by
  unfold callT
  by_cases h0 : n = 3221225534
  · subst h0; decide
  by_cases h1 : n = 1073741827
  · subst h1; decide
  by_cases h2 : n = 3221225655
  · subst h2; decide
  by_cases h3 : n = 1073741864
  · subst h3; decide
  rw [if_neg h0, if_neg h1, if_neg h2, if_neg h3]
  have e : ∀ i, i < 4 → selIn n i 8 = [] := by
    intro i hi
    refine sel_off ?_ 8
    rcases four_nat hi with rfl | rfl | rfl | rfl
    · exact fun e => h0 e.symm
    · exact fun e => h1 e.symm
    · exact fun e => h2 e.symm
    · exact fun e => h3 e.symm
  show ((([] ++ selIn n 0 8) ++ selIn n 1 8) ++ selIn n 2 8) ++ selIn n 3 8 = []
  rw [e 0 (by omega), e 1 (by omega), e 2 (by omega), e 3 (by omega)]
  rfl
theorem row8_at (i : Nat) {k : Nat} (h : k < 8) : (row8 i)[k]? = some (.int .u32 (rowN i k : Nat)) := by
  unfold row8
  simp [h]
theorem nm8_at {k : Nat} (h : k < 8) : nm8[k]? = some (.string (nameN k)) := by
  rcases eight_nat h with rfl | rfl | rfl | rfl | rfl | rfl | rfl | rfl <;> rfl
theorem n4_at {i : Nat} (h : i < 4) : n4[i]? = some (.int .u32 (machN i : Nat)) := by
  rcases four_nat h with rfl | rfl | rfl | rfl <;> rfl
theorem sel_small (n i : Nat) : ∀ k, k ≤ 8 → (selIn n i k).length ≤ k
  | 0, _ => by simp [selIn]
  | k + 1, h => by
    show (selIn n i k ++ pickR n i k).length ≤ k + 1
    have := sel_small n i k (by omega)
    have h2 : (pickR n i k).length ≤ 1 := by unfold pickR; split <;> simp
    rw [List.length_append]
    omega
theorem selR_small (n : Nat) : ∀ i, i ≤ 4 → (selR n i).length ≤ 8 * i
  | 0, _ => by simp [selR]
  | i + 1, h => by
    show (selR n i ++ selIn n i 8).length ≤ 8 * (i + 1)
    have := selR_small n i (by omega)
    have := sel_small n i 8 (by omega)
    rw [List.length_append]
    omega
theorem pick_hit {n i k : Nat} (h1 : machN i = n) (h2 : rowN i k ≠ 1000000) : selR n i ++ selIn n i (k + 1) = (selR n i ++ selIn n i k) ++ [(nameN k, rowN i k)] := by
  show selR n i ++ (selIn n i k ++ pickR n i k) = _
  unfold pickR
  rw [if_pos ⟨h1, h2⟩, List.append_assoc]
theorem pick_miss {n i k : Nat} (h : ¬ (machN i = n ∧ rowN i k ≠ 1000000)) : selR n i ++ selIn n i (k + 1) = selR n i ++ selIn n i k := by
  show selR n i ++ (selIn n i k ++ pickR n i k) = _
  unfold pickR
  rw [if_neg h, List.append_nil]
theorem infoStr : (Tryd.prog.info? 9).map (fun i => (i.zero, i.size, i.bytes)) = some (some (.string ⟨#[]⟩), 1, 16) := by kernel_rfl
theorem infoU32 : (Tryd.prog.info? 22).map (fun i => (i.zero, i.size, i.bytes)) = some (some (.int .u32 0), 1, 4) := by kernel_rfl
set_option maxHeartbeats 4000000 in
theorem rcalls_any (n : Nat) (w : World) (_hn : n < 4294967296) :
    Calls Tryd.prog 30 #[.int .u32 n] w fun e w' => TblEnd (callT n) w' e ∧ Below w.heap.size w w' := by
  obtain ⟨W6, hW6, hs6, hb6, b0, b1, b2, b3, b4, b5⟩ := six_al w (.cells nm8 9) (.cells (row8 0) 22) (.cells (row8 1) 22) (.cells (row8 2) 22) (.cells (row8 3) 22) (.cells (rows4 w.heap.size) 46)
  have HB6 := Lib.hid hb6
  have HC : Hid (∀ i k, i < 4 → k < 8 → ∃ q, q < W6.heap.size ∧ W6.cell? ⟨w.heap.size + 5, i, none⟩ = some (.slice (some ⟨q, 0, none⟩) 8 8) ∧ W6.cell? ⟨q, k, none⟩ = some (.int .u32 (rowN i k : Nat)) ∧ W6.cell? ⟨w.heap.size, k, none⟩ = some (.string (nameN k))) := Lib.hid (by
    intro i k hi hk
    rcases four_nat hi with rfl | rfl | rfl | rfl
    · exact ⟨w.heap.size + 1, by omega, (cell_in b5 0).trans rfl, (cell_in b1 k).trans (row8_at 0 hk), (cell_in b0 k).trans (nm8_at hk)⟩
    · exact ⟨w.heap.size + 2, by omega, (cell_in b5 1).trans rfl, (cell_in b2 k).trans (row8_at 1 hk), (cell_in b0 k).trans (nm8_at hk)⟩
    · exact ⟨w.heap.size + 3, by omega, (cell_in b5 2).trans rfl, (cell_in b3 k).trans (row8_at 2 hk), (cell_in b0 k).trans (nm8_at hk)⟩
    · exact ⟨w.heap.size + 4, by omega, (cell_in b5 3).trans rfl, (cell_in b4 k).trans (row8_at 3 hk), (cell_in b0 k).trans (nm8_at hk)⟩)
  have HS6 := Lib.hid hs6
  clear hs6 hb6 b0 b1 b2 b3 b4 b5
  go_enter Tryd.func30, Tryd.ntmps30
  go_upto_region 4 with fail
  change Code.wp _ _ _ _ ((((((w.alloc (.cells nm8 9)).alloc (.cells (row8 0) 22)).alloc (.cells (row8 1) 22)).alloc (.cells (row8 2) 22)).alloc (.cells (row8 3) 22)).alloc (.cells (rows4 w.heap.size) 46))
  rw [← hW6]
  clear hW6
  obtain ⟨r5, hr5⟩ : ∃ r, r = w.heap.size + 1 + 1 + 1 + 1 + 1 := ⟨_, rfl⟩
  rw [← hr5]
  have e5 : w.heap.size + 5 = r5 := hr5.symm
  rw [e5] at HC
  have hr6 : r5 < W6.heap.size := by have := HS6.out; omega
  have hz6 : w.heap.size < W6.heap.size := by have := HS6.out; omega
  clear e5 hr5 HS6
  go_wp2_with fail
  refine (rmachines_any _).mono ?_
  obtain ⟨W, hW⟩ : ∃ W, W = (W6.alloc (.cells m4 9)).alloc (.cells n4 22) := ⟨_, rfl⟩
  have hbW : Below W6.heap.size W6 W := by rw [hW]; exact ba _ (ba _ (Below.refl _ _))
  have hM : W.heap[W6.heap.size + 1]? = some (.cells n4 22) := by rw [hW]; exact al_new _ _ (by simp only [size_alloc])
  obtain ⟨mb, hmb⟩ : ∃ m, m = W6.heap.size + 1 := ⟨_, rfl⟩
  rw [← hmb] at hM ⊢
  rintro e w1 ⟨rfl, rfl⟩
  rw [← hW]
  have HC2 : Hid (∀ V, Below W.heap.size W V → ∀ i k, i < 4 → k < 8 → ∃ q, q < W.heap.size ∧ V.cell? ⟨r5, i, none⟩ = some (.slice (some ⟨q, 0, none⟩) 8 8) ∧ V.cell? ⟨q, k, none⟩ = some (.int .u32 (rowN i k : Nat)) ∧ V.cell? ⟨w.heap.size, k, none⟩ = some (.string (nameN k)) ∧ V.cell? ⟨mb, i, none⟩ = some (.int .u32 (machN i : Nat))) := Lib.hid (by
    intro V hV i k hi hk
    obtain ⟨q, hq, h1, h2, h3⟩ := HC.out i k hi hk
    have hsz := hbW.size
    have hV6 := (hbW.trans (hV.mono hbW.size))
    exact ⟨q, by omega, (hV6.cell (p := ⟨r5, i, none⟩) hr6).trans h1, (hV6.cell (p := ⟨q, k, none⟩) hq).trans h2, (hV6.cell (p := ⟨w.heap.size, k, none⟩) hz6).trans h3, (hV.cell (p := ⟨mb, i, none⟩) (lt_of_block hM)).trans ((cell_in hM i).trans (n4_at hi))⟩)
  have HBW := Lib.hid (below2 HB6.out hbW)
  clear hW hbW hM hmb HC HB6 hr6 hz6
  obtain ⟨is, his, hsz0, hsz1, hsz2⟩ := info_parts infoStr
  obtain ⟨iu, hiu, huz0, huz1, huz2⟩ := info_parts infoU32
  go_wp2_with fail
  go_loopw [9, 10, 11] (fun a b i wr => ∃ j : Nat, j ≤ 4 ∧ i = .int .i64 j ∧ wr.ownsRow W.heap.size 9 1 a (selR n j).length (nmC (selR n j)) ∧ wr.ownsRow W.heap.size 22 1 b (selR n j).length (noC (selR n j)) ∧ Below W.heap.size W wr) (fun _ _ i _ => 4 - (intOf i).toNat)
  case atStart => exact ⟨0, by omega, rfl, World.ownsRow_nil _ _ _ _, World.ownsRow_nil _ _ _ _, Below.refl _ _⟩
  case round =>
    obtain ⟨j, hj, rfl, hOA, hOB, hB⟩ := hrel
    have HOA := Lib.hid hOA
    have HOB := Lib.hid hOB
    have HB := Lib.hid hB
    clear hOA hOB hB
    by_cases hlt : j < 4
    · have hlt' : (j : Int) < 4 := by omega
      have h0j : (0 : Int) ≤ (j : Int) := by omega
      have tj : (j : Int).toNat = j := by omega
      go_wp2_with fail
      go_loopw [9, 10, 12] (fun a b i wr => ∃ k : Nat, k ≤ 8 ∧ i = .int .i64 k ∧ wr.ownsRow W.heap.size 9 1 a (selR n j ++ selIn n j k).length (nmC (selR n j ++ selIn n j k)) ∧ wr.ownsRow W.heap.size 22 1 b (selR n j ++ selIn n j k).length (noC (selR n j ++ selIn n j k)) ∧ Below W.heap.size W wr) (fun _ _ i _ => 8 - (intOf i).toNat)
      case atStart => exact ⟨0, by omega, rfl, by simpa [selIn] using HOA.out, by simpa [selIn] using HOB.out, HB.out⟩
      case round =>
        clear HOA HOB HB
        obtain ⟨k, hk, rfl, hOA, hOB, hB⟩ := hrel
        have HOA := Lib.hid hOA
        have HOB := Lib.hid hOB
        have HB := Lib.hid hB
        clear hOA hOB hB
        by_cases hkt : k < 8
        · have hkt' : (k : Int) < 8 := by omega
          have h0k : (0 : Int) ≤ (k : Int) := by omega
          have tk' : (k : Int).toNat = k := by omega
          have HSM : Hid ((selR n j ++ selIn n j k).length ≤ 40) := Lib.hid (by
            have := selR_small n j hj
            have := sel_small n j k hk
            rw [List.length_append]
            omega)
          obtain ⟨q, hq, x1, x2, x3, x4⟩ := HC2.out wr HB.out j k hlt hkt
          by_cases hm : machN j = n
          · have hmd : ((machN j : Int) == (n : Int)) = true := by simp [hm]
            by_cases hr : rowN j k = 1000000
            · have hrd : ((rowN j k : Int) == 1000000) = true := by simp [hr]
              have HP := Lib.hid (pick_miss (n := n) (i := j) (k := k) (fun h => h.2 hr))
              clear hr hm
              generalize rowN j k = rv at x2 hrd
              generalize machN j = mv at x4 hmd
              go_wp2_with fail
              go_roundw
              case rel => exact ⟨k + 1, by omega, by go_num, by rw [HP.out]; exact HOA.out, by rw [HP.out]; exact HOB.out, HB.out⟩
              case measure => simp [intOf]; omega
            · have hrd : ((rowN j k : Int) == 1000000) = false := by simp; omega
              have HP := Lib.hid (pick_hit (n := n) (i := j) (k := k) hm hr)
              have HR := Lib.hid (fun V (hV : Below W.heap.size W V) => HC2.out V hV j k hlt hkt)
              clear hr hm
              generalize nameN k = nv at x3 HP HR
              generalize rowN j k = rv at x2 hrd HP HR
              generalize machN j = mv at x4 hmd HR
              generalize selR n j ++ selIn n j k = T0 at HOA HOB HP HSM
              have hSz := HB.out.size
              go_wp2_with (at_builtin; refine wpList_append_own _ rfl _ _ 45 rfl W.heap.size 9 is (.string ⟨#[]⟩) 1 16 Tryd.underlying45 his hsz0 hsz1 hsz2 rfl (by decide) _ _ _ rfl (HOA.out.alloc _) ⟨wr.heap.size, 0, none⟩ 1 1 [.string nv] rfl rfl (new_at wr #[.string nv] 9) (by simp [Value.oneCell']) (by have := HSM.out; unfold maxLen; omega) (by have := HSM.out; omega) (by rw [size_alloc]; omega) ?_)
              intro v2 w2 hown2 hgrow2 _
              have hB2 := grown_below (HB.out.alloc hSz (.cells #[.string nv] 9)) (HOA.out.alloc _) hgrow2 (by rw [size_alloc]; omega)
              have hOB2 := (HOB.out.alloc (.cells #[.string nv] 9)).kept hgrow2 (own_apart HOA.out HOB.out (by decide))
              have HOA2 : Hid (w2.ownsRow W.heap.size 9 1 v2 (T0 ++ [(nv, rv)]).length (nmC (T0 ++ [(nv, rv)]))) := Lib.hid (by simpa using hown2)
              have HOB2 := Lib.hid hOB2
              have HB2 := Lib.hid hB2
              have hSz2 := hB2.size
              clear hown2 hgrow2 hOB2 hB2 HOA HOB HB x1 x2 x3 x4 hSz
              obtain ⟨q2, hq2, y1, y2, y3, y4⟩ := HR.out w2 HB2.out
              go_wp2_with (at_builtin; refine wpList_append_own _ rfl _ _ 46 rfl W.heap.size 22 iu (.int .u32 0) 1 4 Tryd.underlying46 hiu huz0 huz1 huz2 rfl (by decide) _ _ _ rfl (HOB2.out.alloc _) ⟨w2.heap.size, 0, none⟩ 1 1 [.int .u32 (rv : Nat)] rfl rfl (new_at w2 #[.int .u32 (rv : Nat)] 22) (by simp [Value.oneCell']) (by have := HSM.out; unfold maxLen; omega) (by have := HSM.out; omega) (by rw [size_alloc]; omega) ?_)
              intro v3 w3 hown3 hgrow3 _
              have hB3 := grown_below (HB2.out.alloc hSz2 (.cells #[.int .u32 (rv : Nat)] 22)) (HOB2.out.alloc _) hgrow3 (by rw [size_alloc]; omega)
              have hOA3 := (HOA2.out.alloc (.cells #[.int .u32 (rv : Nat)] 22)).kept hgrow3 (own_apart HOB2.out HOA2.out (by decide))
              have HOB3 : Hid (w3.ownsRow W.heap.size 22 1 v3 (T0 ++ [(nv, rv)]).length (noC (T0 ++ [(nv, rv)]))) := Lib.hid (by simpa using hown3)
              have HOA3 := Lib.hid hOA3
              have HB3 := Lib.hid hB3
              clear hown3 hgrow3 hOA3 hB3 HOA2 HOB2 HB2 y1 y2 y3 y4 hSz2
              go_wp2_with fail
              go_roundw
              case rel => exact ⟨k + 1, by omega, by go_num, by rw [HP.out]; exact HOA3.out, by rw [HP.out]; exact HOB3.out, HB3.out⟩
              case measure => simp [intOf]; omega
          · have hmd : ((machN j : Int) == (n : Int)) = false := by simp; omega
            have HP := Lib.hid (pick_miss (n := n) (i := j) (k := k) (fun h => hm h.1))
            clear hm
            generalize rowN j k = rv at x2
            generalize machN j = mv at x4 hmd
            go_wp2_with fail
            go_roundw
            case rel => exact ⟨k + 1, by omega, by go_num, by rw [HP.out]; exact HOA.out, by rw [HP.out]; exact HOB.out, HB.out⟩
            case measure => simp [intOf]; omega
        · obtain rfl : k = 8 := by omega
          go_wp2_with fail
          go_roundw
          case rel => exact ⟨j + 1, by omega, by go_num, HOA.out, HOB.out, HB.out⟩
          case measure => simp [intOf]; omega
    · obtain rfl : j = 4 := by omega
      have HE := Lib.hid (selR_all n)
      rw [HE.out] at HOA HOB
      have HF : Hid (TblEnd (callT n) wr (.returned (.tuple #[u9, u10]))) := Lib.hid (tblEnd (SAt.own HOA.out (by simp)) (SAt.own HOB.out (by simp)))
      have HBB := Lib.hid (HBW.out.trans (HB.out.mono HBW.out.size))
      go_wp2_with fail
      go_ret2
      exact ⟨HF.out, HBB.out⟩
end Go.Proofs.YtmijnhcbbklmaaaDoor
