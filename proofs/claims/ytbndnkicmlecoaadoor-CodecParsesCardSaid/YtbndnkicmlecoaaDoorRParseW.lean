/-
  The document's own reading of an instruction's text (package hurdleref02): the walk of Parse.
-/
import Derived.Test.YtbndnkicmlecoaaDoorRParse
import Derived.Deep.QuietTactic
import Derived.BigQuiet
import Derived.Deep.DeepCutAuto
namespace Go.Proofs.YtbndnkicmlecoaaDoor
open Go.ChangeShapes Go.WideShapes Go.ChangeAt Go.RowKit

theorem len2 {α : Type} {l : List α} (h : l.length = 2) : ∃ y z, l = [y, z] := by
  match l, h with
  | [y, z], _ => exact ⟨y, z, rfl⟩
theorem three_set {W : World} {b k : Nat} {op : Int} (h : W.heap[b]? = some (insB op 0 0 0)) : (W.setCell ⟨b, 3, none⟩ (.int .u32 ((k : Int) % 4294967296))).heap[b]? = some (insB op ((0 : Nat) : Int) ((0 : Nat) : Int) ((k % 4294967296 : Nat) : Int)) :=
  heap_setCell_same W b 3 _ _ _ h
theorem two_set {W : World} {b p q K : Nat} {op : Int} (h : W.heap[b]? = some (insB op ((0 : Nat) : Int) ((0 : Nat) : Int) (K : Int))) : ((W.setCell ⟨b, 1, none⟩ (.int .i64 ((p : Int) % 256))).setCell ⟨b, 2, none⟩ (.int .i64 ((q : Int) % 256))).heap[b]? = some (insB op ((p % 256 : Nat) : Int) ((q % 256 : Nat) : Int) (K : Int)) :=
  heap_setCell_same _ b 2 _ _ _ (heap_setCell_same W b 1 _ _ _ h)
theorem below_drewN {B : Nat} {a w : World} (h : Below B a w) (n : Nat) : Below B a (w.drewN n) := ⟨h.os, h.tape, h.output, h.size, h.block⟩

set_option maxRecDepth 100000 in
set_option maxHeartbeats 40000000 in
theorem rparse_any (s : ByteArray) (w : World) (hs : s.size ≤ 1099511627776) :
    Calls Tryd.prog 34 #[.string s] w fun e w' => RParseEnd s e ∧ Below w.heap.size w w' := by
  obtain ⟨h, rest, hparts⟩ : ∃ h rest, Ip.cutAll 32 [] s.data.toList = h :: rest := by
    cases e : Ip.cutAll 32 [] s.data.toList with
    | nil => exact absurd e (Ip.cutAll_ne 32 _ _)
    | cons h rest => exact ⟨h, rest, rfl⟩
  have hlen := Ip.cutAll_len 32 s.data.toList []
  have hmem := Ip.cutAll_mem 32 s.data.toList []
  rw [hparts] at hlen hmem
  have hsl : s.data.toList.length = s.size := rfl
  have HM : Hid (∀ y ∈ rest, y.length ≤ 4611686018427387904) := Lib.hid fun y hy => by
    have := hmem y (List.mem_cons_of_mem _ hy)
    simp at this hsl
    omega
  have hrl : rest.length ≤ 4611686018427387904 := by simp at hlen hsl; omega
  have HP := Lib.hid hparts
  clear hlen hmem hsl hparts
  have HB0 := Lib.hid (ba zIns (Below.refl w.heap.size w))
  have HR0 : Hid ((w.alloc zIns).heap[w.heap.size]? = some zIns) := Lib.hid (heap_alloc_new _ _)
  go_enter Tryd.func34, Tryd.ntmps34
  go_wp2_with fail
  refine (rcut_any s 32 _ hs).mono ?_
  rintro e w1 ⟨v, rfl, hown, hB1⟩
  rw [HP.out] at hown
  obtain ⟨g, vc, rfl, hg0, hg, hvc, hcs⟩ := own_cells hown (by simp)
  have hvc' : rest.length + 1 ≤ vc := hvc
  have HR1 := Lib.hid ((hB1.block _ (lt_of_block HR0.out)).trans HR0.out)
  have HBw1 := Lib.hid (HB0.out.trans (hB1.mono HB0.out.size))
  have HC1 := Lib.hid hcs
  clear hown hcs hB1 hvc HR0 HB0
  go_wp2_with fail
  refine (words_any _).mono ?_
  rintro e w2 ⟨rfl, hH2, hB2⟩
  have HR2 := Lib.hid ((hB2.block _ (lt_of_block HR1.out)).trans HR1.out)
  have HBw2 := Lib.hid (HBw1.out.trans (hB2.mono HBw1.out.size))
  have HC2 : Hid (∀ i (hi : i < (h :: rest).length), w2.cell? ⟨g, i, none⟩ = some (.string ⟨((h :: rest)[i]).toArray⟩)) := Lib.hid fun i hi => by
    rw [hB2.cell (p := ⟨g, i, none⟩) hg]
    exact HC1.out i _ (by rw [List.getElem?_map, List.getElem?_eq_getElem hi]; rfl)
  have hg2 : g < w2.heap.size := Nat.lt_of_lt_of_le hg hB2.size
  have HW2 := Lib.hid hH2
  have hl2 := lt_of_block hH2
  have hr2 := lt_of_block HR2.out
  clear hH2 hB2 HC1 HR1 HBw1 hg hg0
  go_wp2_with fail
  go_loopw [6] (fun i w' => ∃ n : Nat, n ≤ 39 ∧ i = .int .i64 n ∧ (∀ j, j < n → NotAt s j) ∧ Below w2.heap.size w2 w') (fun i _ => 39 - (intOf i).toNat)
  case atStart => exact ⟨0, by omega, rfl, fun j hj => by omega, Below.refl _ _⟩
  case round =>
    obtain ⟨n, hn, rfl, hno, hBr⟩ := hrel
    have NO := Lib.hid hno
    have HBr := Lib.hid hBr
    have hle := hBr.size
    clear hno hBr
    by_cases hlt : n < 39
    · have cw : wr.cell? ⟨w1.heap.size, n, none⟩ = some (.string (wordAt n)) := (HBr.out.cell (p := ⟨w1.heap.size, n, none⟩) hl2).trans ((cell_in HW2.out n).trans (wordsC_at n hlt))
      have ch : wr.cell? ⟨g, 0, none⟩ = some (.string ⟨h.toArray⟩) := (HBr.out.cell (p := ⟨g, 0, none⟩) hg2).trans (HC2.out 0 (by simp))
      obtain ⟨sh, hsh⟩ : ∃ sh : ByteArray, sh = ⟨h.toArray⟩ := ⟨_, rfl⟩
      rw [← hsh] at ch
      have HSH := Lib.hid hsh
      clear hsh
      have hbig : (n : Int) < 39 := by omega
      by_cases hw : wordAt n = sh
      · have hwb : ((wordAt n).toList == sh.toList) = true := by rw [hw]; simp
        by_cases hl4 : 4 < rest.length + 1
        · have HN := Lib.hid (notAt_many hlt HP.out hl4)
          clear hw
          have hl4' : (4 : Int) < (rest.length : Int) + 1 := by omega
          go_wp2_with fail
          go_quiet (fail)
          go_wp2_with fail
          refine ⟨⟨n + 1, by omega, by go_num, fun j hj => ?_, ?_⟩, by simp [intOf]; omega⟩
          · by_cases hj' : j < n
            · exact NO.out j hj'
            · obtain rfl : j = n := by omega
              exact HN.out
          · exact below_drewN HBr.out _
        · clear hw
          have hl4' : decide ((4 : Int) < (rest.length : Int) + 1) = false := by simp; omega
          go_wp2_with fail
          go_quiet (fail)
          have hbq := below_drewN (Below.refl wr.heap.size wr) nq
          generalize wr.drewN nq = W at *
          have HBW := Lib.hid (HBr.out.trans (hbq.mono HBr.out.size))
          clear hbq cw ch
          go_wp2_with fail
          refine (ops_any _).mono ?_
          rintro e w3 ⟨rfl, hH3, hb3⟩
          have co : w3.cell? ⟨W.heap.size, n, none⟩ = some (.int .i64 (Ip.refRow n).op) := by rw [op_ref n hlt]; exact (cell_in hH3 n).trans (opsC_at n hlt)
          have HB3 := Lib.hid (HBW.out.trans (hb3.mono HBW.out.size))
          have hg3 : g < w3.heap.size := Nat.lt_of_lt_of_le hg2 HB3.out.size
          clear hb3 hH3
          have HX3 : Hid ((w3.alloc (insB (Ip.refRow n).op 0 0 0)).heap[w3.heap.size]? = some (insB (Ip.refRow n).op 0 0 0)) := Lib.hid (heap_alloc_new _ _)
          have HB3' := Lib.hid (HB3.out.alloc HB3.out.size (insB (Ip.refRow n).op 0 0 0))
          cases hP : Ip.plainB n
          · by_cases hnil : rest = []
            · have HNIL := Lib.hid hnil
              have hn0 : decide ((0 : Int) < (rest.length : Int)) = false := by rw [hnil]; rfl
              have hn1 : decide (0 < rest.length) = false := by rw [hnil]; rfl
              have hn2 : ¬ 0 < rest.length := by rw [hnil]; simp
              clear hnil
              obtain ⟨a1, c1, hs1, hc1, ha1⟩ := slice_rest g 0 vc rest.length hvc'
              have HA1 := Lib.hid ha1
              clear ha1
              go_upto_region 13 with (first | (go_at_call 42; refine (plain_any _ _).mono ?_; rintro e w' ⟨rfl, rfl⟩) | (go_at_call 43; refine (rbranch_any _ _).mono ?_; rintro e w' ⟨rfl, rfl⟩))
              obtain ⟨W4, hW4, HX4, HB4⟩ : ∃ W4, W4 = w3.alloc (insB (Ip.refRow n).op 0 0 0) ∧ Hid (W4.heap[w3.heap.size]? = some (insB (Ip.refRow n).op ((0 : Nat) : Int) ((0 : Nat) : Int) ((0 : Nat) : Int))) ∧ Hid (Below w2.heap.size w2 W4) := ⟨_, rfl, HX3, HB3'⟩
              rw [← hW4]
              clear hW4
              obtain ⟨K, l, a2, c2, off, hl0, HX4, hKb0, HH, HA2, HCL, HML, hfr⟩ : ∃ (K : Nat) (l : List (List UInt8)) (a2 : Addr) (c2 off : Nat), Value.slice (some a1) rest.length c1 = Value.slice (some a2) l.length c2 ∧ Hid (W4.heap[w3.heap.size]? = some (insB (Ip.refRow n).op ((0 : Nat) : Int) ((0 : Nat) : Int) (K : Int))) ∧ K ≤ 4294967295 ∧ Hid (Half s n K l) ∧ Hid (0 < l.length → a2 = ⟨g, off, none⟩) ∧ Hid (∀ i (hi : i < l.length), w2.cell? ⟨g, off + i, none⟩ = some (.string ⟨l[i].toArray⟩)) ∧ Hid (∀ y ∈ l, y.length ≤ 4611686018427387904) ∧ l.length ≤ c2 := ⟨0, rest, a1, c1, 1, rfl, HX4, by omega, Lib.hid (by have e := HNIL.out; subst e; exact half_none hlt HP.out hP), HA1, Lib.hid (fun i hi => by rw [Nat.add_comm]; exact HC2.out (i + 1) (by simp [hi])), HM, hc1⟩
              rw [hl0]
              clear hl0
              cases hBr' : Ip.branchB n
              · go_upto_region 18 with (first | (go_at_call 42; refine (plain_any _ _).mono ?_; rintro e w' ⟨rfl, rfl⟩) | (go_at_call 43; refine (rbranch_any _ _).mono ?_; rintro e w' ⟨rfl, rfl⟩))
                obtain ⟨W6, hW6, HX6, HB6⟩ : ∃ W6, W6 = W4 ∧ Hid (W6.heap[w3.heap.size]? = some (insB (Ip.refRow n).op ((0 : Nat) : Int) ((0 : Nat) : Int) (K : Int))) ∧ Hid (Below w2.heap.size w2 W6) := ⟨_, rfl, HX4, HB4⟩
                rw [← hW6]
                clear hW6
                obtain ⟨A, B, K', HXX, HBX, HEX, hKb⟩ : ∃ A B K' : Nat, Hid (W6.heap[w3.heap.size]? = some (insB (Ip.refRow n).op (A : Int) (B : Int) (K' : Int))) ∧ Hid (Below w2.heap.size w2 W6) ∧ Hid (Exact s n A B K') ∧ K' ≤ 4294967295 := ⟨0, 0, K, HX6, HB6, Lib.hid (exact_plain hlt HH.out hBr'), hKb0⟩
                have hX6 := HXX.out
                have x0 : W6.cell? ⟨w3.heap.size, 0, none⟩ = some (.int .i64 (Ip.refRow n).op) := cell_in hX6 0
                have x1' : W6.cell? ⟨w3.heap.size, 1, none⟩ = some (.int .i64 (A : Int)) := cell_in hX6 1
                have x2' : W6.cell? ⟨w3.heap.size, 2, none⟩ = some (.int .i64 (B : Int)) := cell_in hX6 2
                have x3' : W6.cell? ⟨w3.heap.size, 3, none⟩ = some (.int .u32 (K' : Int)) := cell_in hX6 3
                have z1' := free_in hX6 1
                have z2' := free_in hX6 2
                have z3' := free_in hX6 3
                clear hX6
                go_wp2_with fail
                refine (refRight_any _ _ _ _ _).mono ?_
                rintro e w7 ⟨rfl, hb7⟩
                have hX7 := (hb7.block _ (lt_of_block HXX.out)).trans HXX.out
                have HB7 := Lib.hid (HBX.out.trans (hb7.mono HBX.out.size))
                clear x0 x1' x2' x3' z1' z2' z3'
                clear hb7
                cases hri : right (Ip.refRow n).op (A : Int) (B : Int) (K' : Int)
                · have HN := Lib.hid (notAt_right hlt HEX.out hri)
                  clear hX7
                  go_wp2_with fail
                  refine ⟨⟨n + 1, by omega, by go_num, fun j hj => ?_, HB7.out⟩, by simp [intOf]; omega⟩
                  by_cases hj' : j < n
                  · exact NO.out j hj'
                  · obtain rfl : j = n := by omega
                    exact HN.out
                · have HF := Lib.hid (fine_of_right hlt hKb hri)
                  have x0 : w7.cell? ⟨w3.heap.size, 0, none⟩ = some (.int .i64 (Ip.refRow n).op) := cell_in hX7 0
                  have x1' : w7.cell? ⟨w3.heap.size, 1, none⟩ = some (.int .i64 (A : Int)) := cell_in hX7 1
                  have x2' : w7.cell? ⟨w3.heap.size, 2, none⟩ = some (.int .i64 (B : Int)) := cell_in hX7 2
                  have x3' : w7.cell? ⟨w3.heap.size, 3, none⟩ = some (.int .u32 (K' : Int)) := cell_in hX7 3
                  have z1' := free_in hX7 1
                  have z2' := free_in hX7 2
                  have z3' := free_in hX7 3
                  have HX7 := Lib.hid hX7
                  clear hX7
                  go_wp2_with fail
                  refine (refPrint_at hlt HF.out _).mono ?_
                  rintro e w8 ⟨rfl, hb8⟩
                  have hX8 := (hb8.block _ (lt_of_block HX7.out)).trans HX7.out
                  have HB8 := Lib.hid (HB7.out.trans (hb8.mono HB7.out.size))
                  clear x0 x1' x2' x3' z1' z2' z3'
                  clear hb8
                  by_cases hts : itxt (Ip.refRow n) (A) (B) (K') = s
                  · have htb : ((itxt (Ip.refRow n) (A) (B) (K')).toList == s.toList) = true := by rw [hts]; exact beq_self_eq_true _
                    have HE : Hid (RParseEnd s (.returned (.tuple #[insV (Ip.refRow n).op (A : Int) (B : Int) (K' : Int), .bool true]))) := Lib.hid (.inl ⟨Ip.refRow n, _, _, _, ref_mem n hlt, HF.out, hts.symm, rfl⟩)
                    have x0 : w8.cell? ⟨w3.heap.size, 0, none⟩ = some (.int .i64 (Ip.refRow n).op) := cell_in hX8 0
                    have x1' : w8.cell? ⟨w3.heap.size, 1, none⟩ = some (.int .i64 (A : Int)) := cell_in hX8 1
                    have x2' : w8.cell? ⟨w3.heap.size, 2, none⟩ = some (.int .i64 (B : Int)) := cell_in hX8 2
                    have x3' : w8.cell? ⟨w3.heap.size, 3, none⟩ = some (.int .u32 (K' : Int)) := cell_in hX8 3
                    have z1' := free_in hX8 1
                    have z2' := free_in hX8 2
                    have z3' := free_in hX8 3
                    have hRr := (HB8.out.block _ hr2).trans HR2.out
                    have r0 : w8.cell? ⟨w.heap.size, 0, none⟩ = some (.int .i64 0) := cell_in hRr 0
                    have r1 : w8.cell? ⟨w.heap.size, 1, none⟩ = some (.int .i64 0) := cell_in hRr 1
                    have r2 : w8.cell? ⟨w.heap.size, 2, none⟩ = some (.int .i64 0) := cell_in hRr 2
                    have r3 : w8.cell? ⟨w.heap.size, 3, none⟩ = some (.int .u32 0) := cell_in hRr 3
                    have f0 := free_in hRr 0
                    have f1 := free_in hRr 1
                    have f2 := free_in hRr 2
                    have f3 := free_in hRr 3
                    have HBf := Lib.hid (HBw2.out.trans (HB8.out.mono HBw2.out.size))
                    clear hRr hX8 hts
                    go_wp2_with fail
                    (try simp only [Exit.inBlock, Exit.then])
                    refine bodyPost_ret (v := .tuple #[.agg #[.int .i64 (Ip.refRow n).op, .int .i64 (A : Int), .int .i64 (B : Int), .int .u32 (K' : Int)], .bool true]) ?_ rfl ⟨HE.out, ?_⟩
                    · rw [results_cell_tmp rfl]
                      go_simp
                    · have hB := HBf.out
                      go_grown
                  · have htb : ((itxt (Ip.refRow n) (A) (B) (K')).toList == s.toList) = false := by
                      rw [beq_eq_false_iff_ne]
                      intro e
                      rw [Go.ByteArray.toList_eq, Go.ByteArray.toList_eq] at e
                      exact hts (by apply ByteArray.ext; apply Array.ext'; exact e)
                    have HN := Lib.hid (notAt_text HEX.out hts)
                    clear hts hX8
                    go_wp2_with fail
                    refine ⟨⟨n + 1, by omega, by go_num, fun j hj => ?_, HB8.out⟩, by simp [intOf]; omega⟩
                    by_cases hj' : j < n
                    · exact NO.out j hj'
                    · obtain rfl : j = n := by omega
                      exact HN.out
              · by_cases hl2' : l.length = 2
                · obtain ⟨y, z, rfl⟩ := len2 hl2'
                  obtain rfl := HA2.out (by simp)
                  have hy : (⟨y.toArray⟩ : ByteArray).size ≤ 4611686018427387904 := HML.out y (by simp)
                  have hz : (⟨z.toArray⟩ : ByteArray).size ≤ 4611686018427387904 := HML.out z (by simp)
                  have cy2 : w2.cell? ⟨g, off, none⟩ = some (.string ⟨y.toArray⟩) := HCL.out 0 (by simp)
                  have cz2 : w2.cell? ⟨g, off + 1, none⟩ = some (.string ⟨z.toArray⟩) := HCL.out 1 (by simp)
                  have cy : W4.cell? ⟨g, off, none⟩ = some (.string ⟨y.toArray⟩) := (HB4.out.cell (p := ⟨g, off, none⟩) hg2).trans cy2
                  have HCZ := Lib.hid cz2
                  clear cy2 cz2 hl2'
                  go_wp2_with (first | (go_at_call 42; refine (plain_any _ _).mono ?_; rintro e w' ⟨rfl, rfl⟩) | (go_at_call 43; refine (rbranch_any _ _).mono ?_; rintro e w' ⟨rfl, rfl⟩))
                  refine (refParse_any _ _ hy).mono ?_
                  rintro e w5 ⟨p, bp, HPp, rfl, hb5⟩
                  have HX5 := Lib.hid ((hb5.block _ (lt_of_block HX4.out)).trans HX4.out)
                  have HB5 := Lib.hid (HB4.out.trans (hb5.mono HB4.out.size))
                  have cz : w5.cell? ⟨g, off + 1, none⟩ = some (.string ⟨z.toArray⟩) := (HB5.out.cell (p := ⟨g, off + 1, none⟩) hg2).trans HCZ.out
                  clear hb5 cy
                  go_wp2_with fail
                  refine (refParse_any _ _ hz).mono ?_
                  rintro e w6 ⟨q, bq, HQq, rfl, hb6⟩
                  have hX6' := (hb6.block _ (lt_of_block HX5.out)).trans HX5.out
                  have HB6' := Lib.hid (HB5.out.trans (hb6.mono HB5.out.size))
                  have x0 : w6.cell? ⟨w3.heap.size, 0, none⟩ = some (.int .i64 (Ip.refRow n).op) := cell_in hX6' 0
                  have x1' : w6.cell? ⟨w3.heap.size, 1, none⟩ = some (.int .i64 ((0 : Nat) : Int)) := cell_in hX6' 1
                  have x2' : w6.cell? ⟨w3.heap.size, 2, none⟩ = some (.int .i64 ((0 : Nat) : Int)) := cell_in hX6' 2
                  have x3' : w6.cell? ⟨w3.heap.size, 3, none⟩ = some (.int .u32 (K : Int)) := cell_in hX6' 3
                  have z1' := free_in hX6' 1
                  have z2' := free_in hX6' 2
                  have z3' := free_in hX6' 3
                  have HX6' := Lib.hid hX6'
                  have hp64 : (p : Int) ≤ 18446744073709551615 := by have := HPp.out.1; omega
                  have hq64 : (q : Int) ≤ 18446744073709551615 := by have := HQq.out.1; omega
                  clear hb6 cz hX6'
                  go_upto_region 18 with fail
                  obtain ⟨W6, hW6, HX6, HB6⟩ : ∃ W6, W6 = (w6.setCell ⟨w3.heap.size, 1, none⟩ (.int .i64 ((p : Int) % 256))).setCell ⟨w3.heap.size, 2, none⟩ (.int .i64 ((q : Int) % 256)) ∧ Hid (W6.heap[w3.heap.size]? = some (insB (Ip.refRow n).op ((p % 256 : Nat) : Int) ((q % 256 : Nat) : Int) (K : Int))) ∧ Hid (Below w2.heap.size w2 W6) := ⟨_, rfl, Lib.hid (two_set HX6'.out), Lib.hid ((HB6'.out.setCell (p := ⟨w3.heap.size, 1, none⟩) HB3.out.size _).setCell (p := ⟨w3.heap.size, 2, none⟩) HB3.out.size _)⟩
                  rw [← hW6]
                  clear x0 x1' x2' x3' z1' z2' z3'
                  clear hW6
                  obtain ⟨A, B, K', HXX, HBX, HEX, hKb⟩ : ∃ A B K' : Nat, Hid (W6.heap[w3.heap.size]? = some (insB (Ip.refRow n).op (A : Int) (B : Int) (K' : Int))) ∧ Hid (Below w2.heap.size w2 W6) ∧ Hid (Exact s n A B K') ∧ K' ≤ 4294967295 := ⟨(p % 256), (q % 256), K, HX6, HB6, Lib.hid (exact_two HH.out hBr' HPp.out HQq.out), hKb0⟩
                  have hX6 := HXX.out
                  have x0 : W6.cell? ⟨w3.heap.size, 0, none⟩ = some (.int .i64 (Ip.refRow n).op) := cell_in hX6 0
                  have x1' : W6.cell? ⟨w3.heap.size, 1, none⟩ = some (.int .i64 (A : Int)) := cell_in hX6 1
                  have x2' : W6.cell? ⟨w3.heap.size, 2, none⟩ = some (.int .i64 (B : Int)) := cell_in hX6 2
                  have x3' : W6.cell? ⟨w3.heap.size, 3, none⟩ = some (.int .u32 (K' : Int)) := cell_in hX6 3
                  have z1' := free_in hX6 1
                  have z2' := free_in hX6 2
                  have z3' := free_in hX6 3
                  clear hX6
                  go_wp2_with fail
                  refine (refRight_any _ _ _ _ _).mono ?_
                  rintro e w7 ⟨rfl, hb7⟩
                  have hX7 := (hb7.block _ (lt_of_block HXX.out)).trans HXX.out
                  have HB7 := Lib.hid (HBX.out.trans (hb7.mono HBX.out.size))
                  clear x0 x1' x2' x3' z1' z2' z3'
                  clear hb7
                  cases hri : right (Ip.refRow n).op (A : Int) (B : Int) (K' : Int)
                  · have HN := Lib.hid (notAt_right hlt HEX.out hri)
                    clear hX7
                    go_wp2_with fail
                    refine ⟨⟨n + 1, by omega, by go_num, fun j hj => ?_, HB7.out⟩, by simp [intOf]; omega⟩
                    by_cases hj' : j < n
                    · exact NO.out j hj'
                    · obtain rfl : j = n := by omega
                      exact HN.out
                  · have HF := Lib.hid (fine_of_right hlt hKb hri)
                    have x0 : w7.cell? ⟨w3.heap.size, 0, none⟩ = some (.int .i64 (Ip.refRow n).op) := cell_in hX7 0
                    have x1' : w7.cell? ⟨w3.heap.size, 1, none⟩ = some (.int .i64 (A : Int)) := cell_in hX7 1
                    have x2' : w7.cell? ⟨w3.heap.size, 2, none⟩ = some (.int .i64 (B : Int)) := cell_in hX7 2
                    have x3' : w7.cell? ⟨w3.heap.size, 3, none⟩ = some (.int .u32 (K' : Int)) := cell_in hX7 3
                    have z1' := free_in hX7 1
                    have z2' := free_in hX7 2
                    have z3' := free_in hX7 3
                    have HX7 := Lib.hid hX7
                    clear hX7
                    go_wp2_with fail
                    refine (refPrint_at hlt HF.out _).mono ?_
                    rintro e w8 ⟨rfl, hb8⟩
                    have hX8 := (hb8.block _ (lt_of_block HX7.out)).trans HX7.out
                    have HB8 := Lib.hid (HB7.out.trans (hb8.mono HB7.out.size))
                    clear x0 x1' x2' x3' z1' z2' z3'
                    clear hb8
                    by_cases hts : itxt (Ip.refRow n) (A) (B) (K') = s
                    · have htb : ((itxt (Ip.refRow n) (A) (B) (K')).toList == s.toList) = true := by rw [hts]; exact beq_self_eq_true _
                      have HE : Hid (RParseEnd s (.returned (.tuple #[insV (Ip.refRow n).op (A : Int) (B : Int) (K' : Int), .bool true]))) := Lib.hid (.inl ⟨Ip.refRow n, _, _, _, ref_mem n hlt, HF.out, hts.symm, rfl⟩)
                      have x0 : w8.cell? ⟨w3.heap.size, 0, none⟩ = some (.int .i64 (Ip.refRow n).op) := cell_in hX8 0
                      have x1' : w8.cell? ⟨w3.heap.size, 1, none⟩ = some (.int .i64 (A : Int)) := cell_in hX8 1
                      have x2' : w8.cell? ⟨w3.heap.size, 2, none⟩ = some (.int .i64 (B : Int)) := cell_in hX8 2
                      have x3' : w8.cell? ⟨w3.heap.size, 3, none⟩ = some (.int .u32 (K' : Int)) := cell_in hX8 3
                      have z1' := free_in hX8 1
                      have z2' := free_in hX8 2
                      have z3' := free_in hX8 3
                      have hRr := (HB8.out.block _ hr2).trans HR2.out
                      have r0 : w8.cell? ⟨w.heap.size, 0, none⟩ = some (.int .i64 0) := cell_in hRr 0
                      have r1 : w8.cell? ⟨w.heap.size, 1, none⟩ = some (.int .i64 0) := cell_in hRr 1
                      have r2 : w8.cell? ⟨w.heap.size, 2, none⟩ = some (.int .i64 0) := cell_in hRr 2
                      have r3 : w8.cell? ⟨w.heap.size, 3, none⟩ = some (.int .u32 0) := cell_in hRr 3
                      have f0 := free_in hRr 0
                      have f1 := free_in hRr 1
                      have f2 := free_in hRr 2
                      have f3 := free_in hRr 3
                      have HBf := Lib.hid (HBw2.out.trans (HB8.out.mono HBw2.out.size))
                      clear hRr hX8 hts
                      go_wp2_with fail
                      (try simp only [Exit.inBlock, Exit.then])
                      refine bodyPost_ret (v := .tuple #[.agg #[.int .i64 (Ip.refRow n).op, .int .i64 (A : Int), .int .i64 (B : Int), .int .u32 (K' : Int)], .bool true]) ?_ rfl ⟨HE.out, ?_⟩
                      · rw [results_cell_tmp rfl]
                        go_simp
                      · have hB := HBf.out
                        go_grown
                    · have htb : ((itxt (Ip.refRow n) (A) (B) (K')).toList == s.toList) = false := by
                        rw [beq_eq_false_iff_ne]
                        intro e
                        rw [Go.ByteArray.toList_eq, Go.ByteArray.toList_eq] at e
                        exact hts (by apply ByteArray.ext; apply Array.ext'; exact e)
                      have HN := Lib.hid (notAt_text HEX.out hts)
                      clear hts hX8
                      go_wp2_with fail
                      refine ⟨⟨n + 1, by omega, by go_num, fun j hj => ?_, HB8.out⟩, by simp [intOf]; omega⟩
                      by_cases hj' : j < n
                      · exact NO.out j hj'
                      · obtain rfl : j = n := by omega
                        exact HN.out
                · have hlb : ((l.length : Int) == 2) = false := by simp; omega
                  go_upto_region 18 with (first | (go_at_call 42; refine (plain_any _ _).mono ?_; rintro e w' ⟨rfl, rfl⟩) | (go_at_call 43; refine (rbranch_any _ _).mono ?_; rintro e w' ⟨rfl, rfl⟩))
                  obtain ⟨W6, hW6, HX6, HB6⟩ : ∃ W6, W6 = W4 ∧ Hid (W6.heap[w3.heap.size]? = some (insB (Ip.refRow n).op ((0 : Nat) : Int) ((0 : Nat) : Int) (K : Int))) ∧ Hid (Below w2.heap.size w2 W6) := ⟨_, rfl, HX4, HB4⟩
                  rw [← hW6]
                  clear hW6
                  obtain ⟨A, B, K', HXX, HBX, HEX, hKb⟩ : ∃ A B K' : Nat, Hid (W6.heap[w3.heap.size]? = some (insB (Ip.refRow n).op (A : Int) (B : Int) (K' : Int))) ∧ Hid (Below w2.heap.size w2 W6) ∧ Hid (Exact s n A B K') ∧ K' ≤ 4294967295 := ⟨0, 0, K, HX6, HB6, Lib.hid (exact_len HH.out hBr' hl2' 0 0), hKb0⟩
                  have hX6 := HXX.out
                  have x0 : W6.cell? ⟨w3.heap.size, 0, none⟩ = some (.int .i64 (Ip.refRow n).op) := cell_in hX6 0
                  have x1' : W6.cell? ⟨w3.heap.size, 1, none⟩ = some (.int .i64 (A : Int)) := cell_in hX6 1
                  have x2' : W6.cell? ⟨w3.heap.size, 2, none⟩ = some (.int .i64 (B : Int)) := cell_in hX6 2
                  have x3' : W6.cell? ⟨w3.heap.size, 3, none⟩ = some (.int .u32 (K' : Int)) := cell_in hX6 3
                  have z1' := free_in hX6 1
                  have z2' := free_in hX6 2
                  have z3' := free_in hX6 3
                  clear hX6
                  go_wp2_with fail
                  refine (refRight_any _ _ _ _ _).mono ?_
                  rintro e w7 ⟨rfl, hb7⟩
                  have hX7 := (hb7.block _ (lt_of_block HXX.out)).trans HXX.out
                  have HB7 := Lib.hid (HBX.out.trans (hb7.mono HBX.out.size))
                  clear x0 x1' x2' x3' z1' z2' z3'
                  clear hb7
                  cases hri : right (Ip.refRow n).op (A : Int) (B : Int) (K' : Int)
                  · have HN := Lib.hid (notAt_right hlt HEX.out hri)
                    clear hX7
                    go_wp2_with fail
                    refine ⟨⟨n + 1, by omega, by go_num, fun j hj => ?_, HB7.out⟩, by simp [intOf]; omega⟩
                    by_cases hj' : j < n
                    · exact NO.out j hj'
                    · obtain rfl : j = n := by omega
                      exact HN.out
                  · have HF := Lib.hid (fine_of_right hlt hKb hri)
                    have x0 : w7.cell? ⟨w3.heap.size, 0, none⟩ = some (.int .i64 (Ip.refRow n).op) := cell_in hX7 0
                    have x1' : w7.cell? ⟨w3.heap.size, 1, none⟩ = some (.int .i64 (A : Int)) := cell_in hX7 1
                    have x2' : w7.cell? ⟨w3.heap.size, 2, none⟩ = some (.int .i64 (B : Int)) := cell_in hX7 2
                    have x3' : w7.cell? ⟨w3.heap.size, 3, none⟩ = some (.int .u32 (K' : Int)) := cell_in hX7 3
                    have z1' := free_in hX7 1
                    have z2' := free_in hX7 2
                    have z3' := free_in hX7 3
                    have HX7 := Lib.hid hX7
                    clear hX7
                    go_wp2_with fail
                    refine (refPrint_at hlt HF.out _).mono ?_
                    rintro e w8 ⟨rfl, hb8⟩
                    have hX8 := (hb8.block _ (lt_of_block HX7.out)).trans HX7.out
                    have HB8 := Lib.hid (HB7.out.trans (hb8.mono HB7.out.size))
                    clear x0 x1' x2' x3' z1' z2' z3'
                    clear hb8
                    by_cases hts : itxt (Ip.refRow n) (A) (B) (K') = s
                    · have htb : ((itxt (Ip.refRow n) (A) (B) (K')).toList == s.toList) = true := by rw [hts]; exact beq_self_eq_true _
                      have HE : Hid (RParseEnd s (.returned (.tuple #[insV (Ip.refRow n).op (A : Int) (B : Int) (K' : Int), .bool true]))) := Lib.hid (.inl ⟨Ip.refRow n, _, _, _, ref_mem n hlt, HF.out, hts.symm, rfl⟩)
                      have x0 : w8.cell? ⟨w3.heap.size, 0, none⟩ = some (.int .i64 (Ip.refRow n).op) := cell_in hX8 0
                      have x1' : w8.cell? ⟨w3.heap.size, 1, none⟩ = some (.int .i64 (A : Int)) := cell_in hX8 1
                      have x2' : w8.cell? ⟨w3.heap.size, 2, none⟩ = some (.int .i64 (B : Int)) := cell_in hX8 2
                      have x3' : w8.cell? ⟨w3.heap.size, 3, none⟩ = some (.int .u32 (K' : Int)) := cell_in hX8 3
                      have z1' := free_in hX8 1
                      have z2' := free_in hX8 2
                      have z3' := free_in hX8 3
                      have hRr := (HB8.out.block _ hr2).trans HR2.out
                      have r0 : w8.cell? ⟨w.heap.size, 0, none⟩ = some (.int .i64 0) := cell_in hRr 0
                      have r1 : w8.cell? ⟨w.heap.size, 1, none⟩ = some (.int .i64 0) := cell_in hRr 1
                      have r2 : w8.cell? ⟨w.heap.size, 2, none⟩ = some (.int .i64 0) := cell_in hRr 2
                      have r3 : w8.cell? ⟨w.heap.size, 3, none⟩ = some (.int .u32 0) := cell_in hRr 3
                      have f0 := free_in hRr 0
                      have f1 := free_in hRr 1
                      have f2 := free_in hRr 2
                      have f3 := free_in hRr 3
                      have HBf := Lib.hid (HBw2.out.trans (HB8.out.mono HBw2.out.size))
                      clear hRr hX8 hts
                      go_wp2_with fail
                      (try simp only [Exit.inBlock, Exit.then])
                      refine bodyPost_ret (v := .tuple #[.agg #[.int .i64 (Ip.refRow n).op, .int .i64 (A : Int), .int .i64 (B : Int), .int .u32 (K' : Int)], .bool true]) ?_ rfl ⟨HE.out, ?_⟩
                      · rw [results_cell_tmp rfl]
                        go_simp
                      · have hB := HBf.out
                        go_grown
                    · have htb : ((itxt (Ip.refRow n) (A) (B) (K')).toList == s.toList) = false := by
                        rw [beq_eq_false_iff_ne]
                        intro e
                        rw [Go.ByteArray.toList_eq, Go.ByteArray.toList_eq] at e
                        exact hts (by apply ByteArray.ext; apply Array.ext'; exact e)
                      have HN := Lib.hid (notAt_text HEX.out hts)
                      clear hts hX8
                      go_wp2_with fail
                      refine ⟨⟨n + 1, by omega, by go_num, fun j hj => ?_, HB8.out⟩, by simp [intOf]; omega⟩
                      by_cases hj' : j < n
                      · exact NO.out j hj'
                      · obtain rfl : j = n := by omega
                        exact HN.out
            · obtain ⟨x, l', hrest⟩ : ∃ x l', rest = x :: l' := by cases rest with | nil => exact absurd rfl hnil | cons x l' => exact ⟨x, l', rfl⟩
              have hpos : 0 < rest.length := by rw [hrest]; simp
              have hposi : (0 : Int) < (rest.length : Int) := by omega
              have hlr : l'.length + 1 = rest.length := by rw [hrest]; rfl
              have HREST := Lib.hid hrest
              clear hrest hnil
              obtain ⟨a1, c1, hs1, hc1, ha1⟩ := slice_rest g 0 vc rest.length hvc'
              have HA1 := Lib.hid ha1
              clear ha1
              obtain rfl := HA1.out hpos
              have hxz : (⟨x.toArray⟩ : ByteArray).size ≤ 4611686018427387904 := HM.out x (by rw [HREST.out]; simp)
              have cx2 : w2.cell? ⟨g, 1, none⟩ = some (.string ⟨x.toArray⟩) := by have e := HREST.out; subst e; exact HC2.out 1 (by simp)
              have cx : w3.cell? ⟨g, 1, none⟩ = some (.string ⟨x.toArray⟩) := (HB3.out.cell (p := ⟨g, 1, none⟩) hg2).trans cx2
              obtain ⟨a2', c2', hs2, hc2, ha2⟩ := slice_rest g 1 c1 l'.length (by omega)
              rw [hlr] at hs2
              have HA2' := Lib.hid ha2
              clear cx2 ha2 hlr
              go_wp2_with (first | (go_at_call 42; refine (plain_any _ _).mono ?_; rintro e w' ⟨rfl, rfl⟩) | (go_at_call 43; refine (rbranch_any _ _).mono ?_; rintro e w' ⟨rfl, rfl⟩))
              refine (refParse_any _ _ hxz).mono ?_
              rintro e w4 ⟨k, bk, HK, rfl, hb4⟩
              have hX4' := (hb4.block _ (lt_of_block HX3.out)).trans HX3.out
              have HB4' := Lib.hid (HB3'.out.trans (hb4.mono HB3'.out.size))
              have x0 : w4.cell? ⟨w3.heap.size, 0, none⟩ = some (.int .i64 (Ip.refRow n).op) := cell_in hX4' 0
              have x1' : w4.cell? ⟨w3.heap.size, 1, none⟩ = some (.int .i64 0) := cell_in hX4' 1
              have x2' : w4.cell? ⟨w3.heap.size, 2, none⟩ = some (.int .i64 0) := cell_in hX4' 2
              have x3' : w4.cell? ⟨w3.heap.size, 3, none⟩ = some (.int .u32 0) := cell_in hX4' 3
              have z1' := free_in hX4' 1
              have z2' := free_in hX4' 2
              have z3' := free_in hX4' 3
              have HX4' := Lib.hid hX4'
              have hk64 : (k : Int) ≤ 18446744073709551615 := by have := HK.out.1; omega
              clear hb4 cx hX4'
              go_upto_region 13 with fail
              obtain ⟨W4, hW4, HX4, HB4⟩ : ∃ W4, W4 = w4.setCell ⟨w3.heap.size, 3, none⟩ (.int .u32 ((k : Int) % 4294967296)) ∧ Hid (W4.heap[w3.heap.size]? = some (insB (Ip.refRow n).op ((0 : Nat) : Int) ((0 : Nat) : Int) ((k % 4294967296 : Nat) : Int))) ∧ Hid (Below w2.heap.size w2 W4) := ⟨_, rfl, Lib.hid (three_set HX4'.out), Lib.hid (HB4'.out.setCell (p := ⟨w3.heap.size, 3, none⟩) HB3.out.size _)⟩
              rw [← hW4]
              clear x0 x1' x2' x3' z1' z2' z3'
              clear hW4
              obtain ⟨K, l, a2, c2, off, hl0, HX4, hKb0, HH, HA2, HCL, HML, hfr⟩ : ∃ (K : Nat) (l : List (List UInt8)) (a2 : Addr) (c2 off : Nat), Value.slice (some a2') l'.length c2' = Value.slice (some a2) l.length c2 ∧ Hid (W4.heap[w3.heap.size]? = some (insB (Ip.refRow n).op ((0 : Nat) : Int) ((0 : Nat) : Int) (K : Int))) ∧ K ≤ 4294967295 ∧ Hid (Half s n K l) ∧ Hid (0 < l.length → a2 = ⟨g, off, none⟩) ∧ Hid (∀ i (hi : i < l.length), w2.cell? ⟨g, off + i, none⟩ = some (.string ⟨l[i].toArray⟩)) ∧ Hid (∀ y ∈ l, y.length ≤ 4611686018427387904) ∧ l.length ≤ c2 := ⟨k % 4294967296, l', a2', c2', 2, rfl, HX4, by omega, Lib.hid (half_K hlt (HP.out.trans (by rw [HREST.out])) hP HK.out), HA2', Lib.hid (fun i hi => by have e := HREST.out; subst e; rw [Nat.add_comm]; exact HC2.out (i + 2) (by simp [hi])), Lib.hid (fun y hy => HM.out y (by rw [HREST.out]; exact List.mem_cons_of_mem _ hy)), hc2⟩
              rw [hl0]
              clear hl0
              cases hBr' : Ip.branchB n
              · go_upto_region 18 with (first | (go_at_call 42; refine (plain_any _ _).mono ?_; rintro e w' ⟨rfl, rfl⟩) | (go_at_call 43; refine (rbranch_any _ _).mono ?_; rintro e w' ⟨rfl, rfl⟩))
                obtain ⟨W6, hW6, HX6, HB6⟩ : ∃ W6, W6 = W4 ∧ Hid (W6.heap[w3.heap.size]? = some (insB (Ip.refRow n).op ((0 : Nat) : Int) ((0 : Nat) : Int) (K : Int))) ∧ Hid (Below w2.heap.size w2 W6) := ⟨_, rfl, HX4, HB4⟩
                rw [← hW6]
                clear hW6
                obtain ⟨A, B, K', HXX, HBX, HEX, hKb⟩ : ∃ A B K' : Nat, Hid (W6.heap[w3.heap.size]? = some (insB (Ip.refRow n).op (A : Int) (B : Int) (K' : Int))) ∧ Hid (Below w2.heap.size w2 W6) ∧ Hid (Exact s n A B K') ∧ K' ≤ 4294967295 := ⟨0, 0, K, HX6, HB6, Lib.hid (exact_plain hlt HH.out hBr'), hKb0⟩
                have hX6 := HXX.out
                have x0 : W6.cell? ⟨w3.heap.size, 0, none⟩ = some (.int .i64 (Ip.refRow n).op) := cell_in hX6 0
                have x1' : W6.cell? ⟨w3.heap.size, 1, none⟩ = some (.int .i64 (A : Int)) := cell_in hX6 1
                have x2' : W6.cell? ⟨w3.heap.size, 2, none⟩ = some (.int .i64 (B : Int)) := cell_in hX6 2
                have x3' : W6.cell? ⟨w3.heap.size, 3, none⟩ = some (.int .u32 (K' : Int)) := cell_in hX6 3
                have z1' := free_in hX6 1
                have z2' := free_in hX6 2
                have z3' := free_in hX6 3
                clear hX6
                go_wp2_with fail
                refine (refRight_any _ _ _ _ _).mono ?_
                rintro e w7 ⟨rfl, hb7⟩
                have hX7 := (hb7.block _ (lt_of_block HXX.out)).trans HXX.out
                have HB7 := Lib.hid (HBX.out.trans (hb7.mono HBX.out.size))
                clear x0 x1' x2' x3' z1' z2' z3'
                clear hb7
                cases hri : right (Ip.refRow n).op (A : Int) (B : Int) (K' : Int)
                · have HN := Lib.hid (notAt_right hlt HEX.out hri)
                  clear hX7
                  go_wp2_with fail
                  refine ⟨⟨n + 1, by omega, by go_num, fun j hj => ?_, HB7.out⟩, by simp [intOf]; omega⟩
                  by_cases hj' : j < n
                  · exact NO.out j hj'
                  · obtain rfl : j = n := by omega
                    exact HN.out
                · have HF := Lib.hid (fine_of_right hlt hKb hri)
                  have x0 : w7.cell? ⟨w3.heap.size, 0, none⟩ = some (.int .i64 (Ip.refRow n).op) := cell_in hX7 0
                  have x1' : w7.cell? ⟨w3.heap.size, 1, none⟩ = some (.int .i64 (A : Int)) := cell_in hX7 1
                  have x2' : w7.cell? ⟨w3.heap.size, 2, none⟩ = some (.int .i64 (B : Int)) := cell_in hX7 2
                  have x3' : w7.cell? ⟨w3.heap.size, 3, none⟩ = some (.int .u32 (K' : Int)) := cell_in hX7 3
                  have z1' := free_in hX7 1
                  have z2' := free_in hX7 2
                  have z3' := free_in hX7 3
                  have HX7 := Lib.hid hX7
                  clear hX7
                  go_wp2_with fail
                  refine (refPrint_at hlt HF.out _).mono ?_
                  rintro e w8 ⟨rfl, hb8⟩
                  have hX8 := (hb8.block _ (lt_of_block HX7.out)).trans HX7.out
                  have HB8 := Lib.hid (HB7.out.trans (hb8.mono HB7.out.size))
                  clear x0 x1' x2' x3' z1' z2' z3'
                  clear hb8
                  by_cases hts : itxt (Ip.refRow n) (A) (B) (K') = s
                  · have htb : ((itxt (Ip.refRow n) (A) (B) (K')).toList == s.toList) = true := by rw [hts]; exact beq_self_eq_true _
                    have HE : Hid (RParseEnd s (.returned (.tuple #[insV (Ip.refRow n).op (A : Int) (B : Int) (K' : Int), .bool true]))) := Lib.hid (.inl ⟨Ip.refRow n, _, _, _, ref_mem n hlt, HF.out, hts.symm, rfl⟩)
                    have x0 : w8.cell? ⟨w3.heap.size, 0, none⟩ = some (.int .i64 (Ip.refRow n).op) := cell_in hX8 0
                    have x1' : w8.cell? ⟨w3.heap.size, 1, none⟩ = some (.int .i64 (A : Int)) := cell_in hX8 1
                    have x2' : w8.cell? ⟨w3.heap.size, 2, none⟩ = some (.int .i64 (B : Int)) := cell_in hX8 2
                    have x3' : w8.cell? ⟨w3.heap.size, 3, none⟩ = some (.int .u32 (K' : Int)) := cell_in hX8 3
                    have z1' := free_in hX8 1
                    have z2' := free_in hX8 2
                    have z3' := free_in hX8 3
                    have hRr := (HB8.out.block _ hr2).trans HR2.out
                    have r0 : w8.cell? ⟨w.heap.size, 0, none⟩ = some (.int .i64 0) := cell_in hRr 0
                    have r1 : w8.cell? ⟨w.heap.size, 1, none⟩ = some (.int .i64 0) := cell_in hRr 1
                    have r2 : w8.cell? ⟨w.heap.size, 2, none⟩ = some (.int .i64 0) := cell_in hRr 2
                    have r3 : w8.cell? ⟨w.heap.size, 3, none⟩ = some (.int .u32 0) := cell_in hRr 3
                    have f0 := free_in hRr 0
                    have f1 := free_in hRr 1
                    have f2 := free_in hRr 2
                    have f3 := free_in hRr 3
                    have HBf := Lib.hid (HBw2.out.trans (HB8.out.mono HBw2.out.size))
                    clear hRr hX8 hts
                    go_wp2_with fail
                    (try simp only [Exit.inBlock, Exit.then])
                    refine bodyPost_ret (v := .tuple #[.agg #[.int .i64 (Ip.refRow n).op, .int .i64 (A : Int), .int .i64 (B : Int), .int .u32 (K' : Int)], .bool true]) ?_ rfl ⟨HE.out, ?_⟩
                    · rw [results_cell_tmp rfl]
                      go_simp
                    · have hB := HBf.out
                      go_grown
                  · have htb : ((itxt (Ip.refRow n) (A) (B) (K')).toList == s.toList) = false := by
                      rw [beq_eq_false_iff_ne]
                      intro e
                      rw [Go.ByteArray.toList_eq, Go.ByteArray.toList_eq] at e
                      exact hts (by apply ByteArray.ext; apply Array.ext'; exact e)
                    have HN := Lib.hid (notAt_text HEX.out hts)
                    clear hts hX8
                    go_wp2_with fail
                    refine ⟨⟨n + 1, by omega, by go_num, fun j hj => ?_, HB8.out⟩, by simp [intOf]; omega⟩
                    by_cases hj' : j < n
                    · exact NO.out j hj'
                    · obtain rfl : j = n := by omega
                      exact HN.out
              · by_cases hl2' : l.length = 2
                · obtain ⟨y, z, rfl⟩ := len2 hl2'
                  obtain rfl := HA2.out (by simp)
                  have hy : (⟨y.toArray⟩ : ByteArray).size ≤ 4611686018427387904 := HML.out y (by simp)
                  have hz : (⟨z.toArray⟩ : ByteArray).size ≤ 4611686018427387904 := HML.out z (by simp)
                  have cy2 : w2.cell? ⟨g, off, none⟩ = some (.string ⟨y.toArray⟩) := HCL.out 0 (by simp)
                  have cz2 : w2.cell? ⟨g, off + 1, none⟩ = some (.string ⟨z.toArray⟩) := HCL.out 1 (by simp)
                  have cy : W4.cell? ⟨g, off, none⟩ = some (.string ⟨y.toArray⟩) := (HB4.out.cell (p := ⟨g, off, none⟩) hg2).trans cy2
                  have HCZ := Lib.hid cz2
                  clear cy2 cz2 hl2'
                  go_wp2_with (first | (go_at_call 42; refine (plain_any _ _).mono ?_; rintro e w' ⟨rfl, rfl⟩) | (go_at_call 43; refine (rbranch_any _ _).mono ?_; rintro e w' ⟨rfl, rfl⟩))
                  refine (refParse_any _ _ hy).mono ?_
                  rintro e w5 ⟨p, bp, HPp, rfl, hb5⟩
                  have HX5 := Lib.hid ((hb5.block _ (lt_of_block HX4.out)).trans HX4.out)
                  have HB5 := Lib.hid (HB4.out.trans (hb5.mono HB4.out.size))
                  have cz : w5.cell? ⟨g, off + 1, none⟩ = some (.string ⟨z.toArray⟩) := (HB5.out.cell (p := ⟨g, off + 1, none⟩) hg2).trans HCZ.out
                  clear hb5 cy
                  go_wp2_with fail
                  refine (refParse_any _ _ hz).mono ?_
                  rintro e w6 ⟨q, bq, HQq, rfl, hb6⟩
                  have hX6' := (hb6.block _ (lt_of_block HX5.out)).trans HX5.out
                  have HB6' := Lib.hid (HB5.out.trans (hb6.mono HB5.out.size))
                  have x0 : w6.cell? ⟨w3.heap.size, 0, none⟩ = some (.int .i64 (Ip.refRow n).op) := cell_in hX6' 0
                  have x1' : w6.cell? ⟨w3.heap.size, 1, none⟩ = some (.int .i64 ((0 : Nat) : Int)) := cell_in hX6' 1
                  have x2' : w6.cell? ⟨w3.heap.size, 2, none⟩ = some (.int .i64 ((0 : Nat) : Int)) := cell_in hX6' 2
                  have x3' : w6.cell? ⟨w3.heap.size, 3, none⟩ = some (.int .u32 (K : Int)) := cell_in hX6' 3
                  have z1' := free_in hX6' 1
                  have z2' := free_in hX6' 2
                  have z3' := free_in hX6' 3
                  have HX6' := Lib.hid hX6'
                  have hp64 : (p : Int) ≤ 18446744073709551615 := by have := HPp.out.1; omega
                  have hq64 : (q : Int) ≤ 18446744073709551615 := by have := HQq.out.1; omega
                  clear hb6 cz hX6'
                  go_upto_region 18 with fail
                  obtain ⟨W6, hW6, HX6, HB6⟩ : ∃ W6, W6 = (w6.setCell ⟨w3.heap.size, 1, none⟩ (.int .i64 ((p : Int) % 256))).setCell ⟨w3.heap.size, 2, none⟩ (.int .i64 ((q : Int) % 256)) ∧ Hid (W6.heap[w3.heap.size]? = some (insB (Ip.refRow n).op ((p % 256 : Nat) : Int) ((q % 256 : Nat) : Int) (K : Int))) ∧ Hid (Below w2.heap.size w2 W6) := ⟨_, rfl, Lib.hid (two_set HX6'.out), Lib.hid ((HB6'.out.setCell (p := ⟨w3.heap.size, 1, none⟩) HB3.out.size _).setCell (p := ⟨w3.heap.size, 2, none⟩) HB3.out.size _)⟩
                  rw [← hW6]
                  clear x0 x1' x2' x3' z1' z2' z3'
                  clear hW6
                  obtain ⟨A, B, K', HXX, HBX, HEX, hKb⟩ : ∃ A B K' : Nat, Hid (W6.heap[w3.heap.size]? = some (insB (Ip.refRow n).op (A : Int) (B : Int) (K' : Int))) ∧ Hid (Below w2.heap.size w2 W6) ∧ Hid (Exact s n A B K') ∧ K' ≤ 4294967295 := ⟨(p % 256), (q % 256), K, HX6, HB6, Lib.hid (exact_two HH.out hBr' HPp.out HQq.out), hKb0⟩
                  have hX6 := HXX.out
                  have x0 : W6.cell? ⟨w3.heap.size, 0, none⟩ = some (.int .i64 (Ip.refRow n).op) := cell_in hX6 0
                  have x1' : W6.cell? ⟨w3.heap.size, 1, none⟩ = some (.int .i64 (A : Int)) := cell_in hX6 1
                  have x2' : W6.cell? ⟨w3.heap.size, 2, none⟩ = some (.int .i64 (B : Int)) := cell_in hX6 2
                  have x3' : W6.cell? ⟨w3.heap.size, 3, none⟩ = some (.int .u32 (K' : Int)) := cell_in hX6 3
                  have z1' := free_in hX6 1
                  have z2' := free_in hX6 2
                  have z3' := free_in hX6 3
                  clear hX6
                  go_wp2_with fail
                  refine (refRight_any _ _ _ _ _).mono ?_
                  rintro e w7 ⟨rfl, hb7⟩
                  have hX7 := (hb7.block _ (lt_of_block HXX.out)).trans HXX.out
                  have HB7 := Lib.hid (HBX.out.trans (hb7.mono HBX.out.size))
                  clear x0 x1' x2' x3' z1' z2' z3'
                  clear hb7
                  cases hri : right (Ip.refRow n).op (A : Int) (B : Int) (K' : Int)
                  · have HN := Lib.hid (notAt_right hlt HEX.out hri)
                    clear hX7
                    go_wp2_with fail
                    refine ⟨⟨n + 1, by omega, by go_num, fun j hj => ?_, HB7.out⟩, by simp [intOf]; omega⟩
                    by_cases hj' : j < n
                    · exact NO.out j hj'
                    · obtain rfl : j = n := by omega
                      exact HN.out
                  · have HF := Lib.hid (fine_of_right hlt hKb hri)
                    have x0 : w7.cell? ⟨w3.heap.size, 0, none⟩ = some (.int .i64 (Ip.refRow n).op) := cell_in hX7 0
                    have x1' : w7.cell? ⟨w3.heap.size, 1, none⟩ = some (.int .i64 (A : Int)) := cell_in hX7 1
                    have x2' : w7.cell? ⟨w3.heap.size, 2, none⟩ = some (.int .i64 (B : Int)) := cell_in hX7 2
                    have x3' : w7.cell? ⟨w3.heap.size, 3, none⟩ = some (.int .u32 (K' : Int)) := cell_in hX7 3
                    have z1' := free_in hX7 1
                    have z2' := free_in hX7 2
                    have z3' := free_in hX7 3
                    have HX7 := Lib.hid hX7
                    clear hX7
                    go_wp2_with fail
                    refine (refPrint_at hlt HF.out _).mono ?_
                    rintro e w8 ⟨rfl, hb8⟩
                    have hX8 := (hb8.block _ (lt_of_block HX7.out)).trans HX7.out
                    have HB8 := Lib.hid (HB7.out.trans (hb8.mono HB7.out.size))
                    clear x0 x1' x2' x3' z1' z2' z3'
                    clear hb8
                    by_cases hts : itxt (Ip.refRow n) (A) (B) (K') = s
                    · have htb : ((itxt (Ip.refRow n) (A) (B) (K')).toList == s.toList) = true := by rw [hts]; exact beq_self_eq_true _
                      have HE : Hid (RParseEnd s (.returned (.tuple #[insV (Ip.refRow n).op (A : Int) (B : Int) (K' : Int), .bool true]))) := Lib.hid (.inl ⟨Ip.refRow n, _, _, _, ref_mem n hlt, HF.out, hts.symm, rfl⟩)
                      have x0 : w8.cell? ⟨w3.heap.size, 0, none⟩ = some (.int .i64 (Ip.refRow n).op) := cell_in hX8 0
                      have x1' : w8.cell? ⟨w3.heap.size, 1, none⟩ = some (.int .i64 (A : Int)) := cell_in hX8 1
                      have x2' : w8.cell? ⟨w3.heap.size, 2, none⟩ = some (.int .i64 (B : Int)) := cell_in hX8 2
                      have x3' : w8.cell? ⟨w3.heap.size, 3, none⟩ = some (.int .u32 (K' : Int)) := cell_in hX8 3
                      have z1' := free_in hX8 1
                      have z2' := free_in hX8 2
                      have z3' := free_in hX8 3
                      have hRr := (HB8.out.block _ hr2).trans HR2.out
                      have r0 : w8.cell? ⟨w.heap.size, 0, none⟩ = some (.int .i64 0) := cell_in hRr 0
                      have r1 : w8.cell? ⟨w.heap.size, 1, none⟩ = some (.int .i64 0) := cell_in hRr 1
                      have r2 : w8.cell? ⟨w.heap.size, 2, none⟩ = some (.int .i64 0) := cell_in hRr 2
                      have r3 : w8.cell? ⟨w.heap.size, 3, none⟩ = some (.int .u32 0) := cell_in hRr 3
                      have f0 := free_in hRr 0
                      have f1 := free_in hRr 1
                      have f2 := free_in hRr 2
                      have f3 := free_in hRr 3
                      have HBf := Lib.hid (HBw2.out.trans (HB8.out.mono HBw2.out.size))
                      clear hRr hX8 hts
                      go_wp2_with fail
                      (try simp only [Exit.inBlock, Exit.then])
                      refine bodyPost_ret (v := .tuple #[.agg #[.int .i64 (Ip.refRow n).op, .int .i64 (A : Int), .int .i64 (B : Int), .int .u32 (K' : Int)], .bool true]) ?_ rfl ⟨HE.out, ?_⟩
                      · rw [results_cell_tmp rfl]
                        go_simp
                      · have hB := HBf.out
                        go_grown
                    · have htb : ((itxt (Ip.refRow n) (A) (B) (K')).toList == s.toList) = false := by
                        rw [beq_eq_false_iff_ne]
                        intro e
                        rw [Go.ByteArray.toList_eq, Go.ByteArray.toList_eq] at e
                        exact hts (by apply ByteArray.ext; apply Array.ext'; exact e)
                      have HN := Lib.hid (notAt_text HEX.out hts)
                      clear hts hX8
                      go_wp2_with fail
                      refine ⟨⟨n + 1, by omega, by go_num, fun j hj => ?_, HB8.out⟩, by simp [intOf]; omega⟩
                      by_cases hj' : j < n
                      · exact NO.out j hj'
                      · obtain rfl : j = n := by omega
                        exact HN.out
                · have hlb : ((l.length : Int) == 2) = false := by simp; omega
                  go_upto_region 18 with (first | (go_at_call 42; refine (plain_any _ _).mono ?_; rintro e w' ⟨rfl, rfl⟩) | (go_at_call 43; refine (rbranch_any _ _).mono ?_; rintro e w' ⟨rfl, rfl⟩))
                  obtain ⟨W6, hW6, HX6, HB6⟩ : ∃ W6, W6 = W4 ∧ Hid (W6.heap[w3.heap.size]? = some (insB (Ip.refRow n).op ((0 : Nat) : Int) ((0 : Nat) : Int) (K : Int))) ∧ Hid (Below w2.heap.size w2 W6) := ⟨_, rfl, HX4, HB4⟩
                  rw [← hW6]
                  clear hW6
                  obtain ⟨A, B, K', HXX, HBX, HEX, hKb⟩ : ∃ A B K' : Nat, Hid (W6.heap[w3.heap.size]? = some (insB (Ip.refRow n).op (A : Int) (B : Int) (K' : Int))) ∧ Hid (Below w2.heap.size w2 W6) ∧ Hid (Exact s n A B K') ∧ K' ≤ 4294967295 := ⟨0, 0, K, HX6, HB6, Lib.hid (exact_len HH.out hBr' hl2' 0 0), hKb0⟩
                  have hX6 := HXX.out
                  have x0 : W6.cell? ⟨w3.heap.size, 0, none⟩ = some (.int .i64 (Ip.refRow n).op) := cell_in hX6 0
                  have x1' : W6.cell? ⟨w3.heap.size, 1, none⟩ = some (.int .i64 (A : Int)) := cell_in hX6 1
                  have x2' : W6.cell? ⟨w3.heap.size, 2, none⟩ = some (.int .i64 (B : Int)) := cell_in hX6 2
                  have x3' : W6.cell? ⟨w3.heap.size, 3, none⟩ = some (.int .u32 (K' : Int)) := cell_in hX6 3
                  have z1' := free_in hX6 1
                  have z2' := free_in hX6 2
                  have z3' := free_in hX6 3
                  clear hX6
                  go_wp2_with fail
                  refine (refRight_any _ _ _ _ _).mono ?_
                  rintro e w7 ⟨rfl, hb7⟩
                  have hX7 := (hb7.block _ (lt_of_block HXX.out)).trans HXX.out
                  have HB7 := Lib.hid (HBX.out.trans (hb7.mono HBX.out.size))
                  clear x0 x1' x2' x3' z1' z2' z3'
                  clear hb7
                  cases hri : right (Ip.refRow n).op (A : Int) (B : Int) (K' : Int)
                  · have HN := Lib.hid (notAt_right hlt HEX.out hri)
                    clear hX7
                    go_wp2_with fail
                    refine ⟨⟨n + 1, by omega, by go_num, fun j hj => ?_, HB7.out⟩, by simp [intOf]; omega⟩
                    by_cases hj' : j < n
                    · exact NO.out j hj'
                    · obtain rfl : j = n := by omega
                      exact HN.out
                  · have HF := Lib.hid (fine_of_right hlt hKb hri)
                    have x0 : w7.cell? ⟨w3.heap.size, 0, none⟩ = some (.int .i64 (Ip.refRow n).op) := cell_in hX7 0
                    have x1' : w7.cell? ⟨w3.heap.size, 1, none⟩ = some (.int .i64 (A : Int)) := cell_in hX7 1
                    have x2' : w7.cell? ⟨w3.heap.size, 2, none⟩ = some (.int .i64 (B : Int)) := cell_in hX7 2
                    have x3' : w7.cell? ⟨w3.heap.size, 3, none⟩ = some (.int .u32 (K' : Int)) := cell_in hX7 3
                    have z1' := free_in hX7 1
                    have z2' := free_in hX7 2
                    have z3' := free_in hX7 3
                    have HX7 := Lib.hid hX7
                    clear hX7
                    go_wp2_with fail
                    refine (refPrint_at hlt HF.out _).mono ?_
                    rintro e w8 ⟨rfl, hb8⟩
                    have hX8 := (hb8.block _ (lt_of_block HX7.out)).trans HX7.out
                    have HB8 := Lib.hid (HB7.out.trans (hb8.mono HB7.out.size))
                    clear x0 x1' x2' x3' z1' z2' z3'
                    clear hb8
                    by_cases hts : itxt (Ip.refRow n) (A) (B) (K') = s
                    · have htb : ((itxt (Ip.refRow n) (A) (B) (K')).toList == s.toList) = true := by rw [hts]; exact beq_self_eq_true _
                      have HE : Hid (RParseEnd s (.returned (.tuple #[insV (Ip.refRow n).op (A : Int) (B : Int) (K' : Int), .bool true]))) := Lib.hid (.inl ⟨Ip.refRow n, _, _, _, ref_mem n hlt, HF.out, hts.symm, rfl⟩)
                      have x0 : w8.cell? ⟨w3.heap.size, 0, none⟩ = some (.int .i64 (Ip.refRow n).op) := cell_in hX8 0
                      have x1' : w8.cell? ⟨w3.heap.size, 1, none⟩ = some (.int .i64 (A : Int)) := cell_in hX8 1
                      have x2' : w8.cell? ⟨w3.heap.size, 2, none⟩ = some (.int .i64 (B : Int)) := cell_in hX8 2
                      have x3' : w8.cell? ⟨w3.heap.size, 3, none⟩ = some (.int .u32 (K' : Int)) := cell_in hX8 3
                      have z1' := free_in hX8 1
                      have z2' := free_in hX8 2
                      have z3' := free_in hX8 3
                      have hRr := (HB8.out.block _ hr2).trans HR2.out
                      have r0 : w8.cell? ⟨w.heap.size, 0, none⟩ = some (.int .i64 0) := cell_in hRr 0
                      have r1 : w8.cell? ⟨w.heap.size, 1, none⟩ = some (.int .i64 0) := cell_in hRr 1
                      have r2 : w8.cell? ⟨w.heap.size, 2, none⟩ = some (.int .i64 0) := cell_in hRr 2
                      have r3 : w8.cell? ⟨w.heap.size, 3, none⟩ = some (.int .u32 0) := cell_in hRr 3
                      have f0 := free_in hRr 0
                      have f1 := free_in hRr 1
                      have f2 := free_in hRr 2
                      have f3 := free_in hRr 3
                      have HBf := Lib.hid (HBw2.out.trans (HB8.out.mono HBw2.out.size))
                      clear hRr hX8 hts
                      go_wp2_with fail
                      (try simp only [Exit.inBlock, Exit.then])
                      refine bodyPost_ret (v := .tuple #[.agg #[.int .i64 (Ip.refRow n).op, .int .i64 (A : Int), .int .i64 (B : Int), .int .u32 (K' : Int)], .bool true]) ?_ rfl ⟨HE.out, ?_⟩
                      · rw [results_cell_tmp rfl]
                        go_simp
                      · have hB := HBf.out
                        go_grown
                    · have htb : ((itxt (Ip.refRow n) (A) (B) (K')).toList == s.toList) = false := by
                        rw [beq_eq_false_iff_ne]
                        intro e
                        rw [Go.ByteArray.toList_eq, Go.ByteArray.toList_eq] at e
                        exact hts (by apply ByteArray.ext; apply Array.ext'; exact e)
                      have HN := Lib.hid (notAt_text HEX.out hts)
                      clear hts hX8
                      go_wp2_with fail
                      refine ⟨⟨n + 1, by omega, by go_num, fun j hj => ?_, HB8.out⟩, by simp [intOf]; omega⟩
                      by_cases hj' : j < n
                      · exact NO.out j hj'
                      · obtain rfl : j = n := by omega
                        exact HN.out
          · obtain ⟨a1, c1, hs1, hc1, ha1⟩ := slice_rest g 0 vc rest.length hvc'
            have HA1 := Lib.hid ha1
            clear ha1
            go_upto_region 13 with (first | (go_at_call 42; refine (plain_any _ _).mono ?_; rintro e w' ⟨rfl, rfl⟩) | (go_at_call 43; refine (rbranch_any _ _).mono ?_; rintro e w' ⟨rfl, rfl⟩))
            obtain ⟨W4, hW4, HX4, HB4⟩ : ∃ W4, W4 = w3.alloc (insB (Ip.refRow n).op 0 0 0) ∧ Hid (W4.heap[w3.heap.size]? = some (insB (Ip.refRow n).op ((0 : Nat) : Int) ((0 : Nat) : Int) ((0 : Nat) : Int))) ∧ Hid (Below w2.heap.size w2 W4) := ⟨_, rfl, HX3, HB3'⟩
            rw [← hW4]
            clear hW4
            obtain ⟨K, l, a2, c2, off, hl0, HX4, hKb0, HH, HA2, HCL, HML, hfr⟩ : ∃ (K : Nat) (l : List (List UInt8)) (a2 : Addr) (c2 off : Nat), Value.slice (some a1) rest.length c1 = Value.slice (some a2) l.length c2 ∧ Hid (W4.heap[w3.heap.size]? = some (insB (Ip.refRow n).op ((0 : Nat) : Int) ((0 : Nat) : Int) (K : Int))) ∧ K ≤ 4294967295 ∧ Hid (Half s n K l) ∧ Hid (0 < l.length → a2 = ⟨g, off, none⟩) ∧ Hid (∀ i (hi : i < l.length), w2.cell? ⟨g, off + i, none⟩ = some (.string ⟨l[i].toArray⟩)) ∧ Hid (∀ y ∈ l, y.length ≤ 4611686018427387904) ∧ l.length ≤ c2 := ⟨0, rest, a1, c1, 1, rfl, HX4, by omega, Lib.hid (half_plain hlt HP.out hP), HA1, Lib.hid (fun i hi => by rw [Nat.add_comm]; exact HC2.out (i + 1) (by simp [hi])), HM, hc1⟩
            rw [hl0]
            clear hl0
            cases hBr' : Ip.branchB n
            · go_upto_region 18 with (first | (go_at_call 42; refine (plain_any _ _).mono ?_; rintro e w' ⟨rfl, rfl⟩) | (go_at_call 43; refine (rbranch_any _ _).mono ?_; rintro e w' ⟨rfl, rfl⟩))
              obtain ⟨W6, hW6, HX6, HB6⟩ : ∃ W6, W6 = W4 ∧ Hid (W6.heap[w3.heap.size]? = some (insB (Ip.refRow n).op ((0 : Nat) : Int) ((0 : Nat) : Int) (K : Int))) ∧ Hid (Below w2.heap.size w2 W6) := ⟨_, rfl, HX4, HB4⟩
              rw [← hW6]
              clear hW6
              obtain ⟨A, B, K', HXX, HBX, HEX, hKb⟩ : ∃ A B K' : Nat, Hid (W6.heap[w3.heap.size]? = some (insB (Ip.refRow n).op (A : Int) (B : Int) (K' : Int))) ∧ Hid (Below w2.heap.size w2 W6) ∧ Hid (Exact s n A B K') ∧ K' ≤ 4294967295 := ⟨0, 0, K, HX6, HB6, Lib.hid (exact_plain hlt HH.out hBr'), hKb0⟩
              have hX6 := HXX.out
              have x0 : W6.cell? ⟨w3.heap.size, 0, none⟩ = some (.int .i64 (Ip.refRow n).op) := cell_in hX6 0
              have x1' : W6.cell? ⟨w3.heap.size, 1, none⟩ = some (.int .i64 (A : Int)) := cell_in hX6 1
              have x2' : W6.cell? ⟨w3.heap.size, 2, none⟩ = some (.int .i64 (B : Int)) := cell_in hX6 2
              have x3' : W6.cell? ⟨w3.heap.size, 3, none⟩ = some (.int .u32 (K' : Int)) := cell_in hX6 3
              have z1' := free_in hX6 1
              have z2' := free_in hX6 2
              have z3' := free_in hX6 3
              clear hX6
              go_wp2_with fail
              refine (refRight_any _ _ _ _ _).mono ?_
              rintro e w7 ⟨rfl, hb7⟩
              have hX7 := (hb7.block _ (lt_of_block HXX.out)).trans HXX.out
              have HB7 := Lib.hid (HBX.out.trans (hb7.mono HBX.out.size))
              clear x0 x1' x2' x3' z1' z2' z3'
              clear hb7
              cases hri : right (Ip.refRow n).op (A : Int) (B : Int) (K' : Int)
              · have HN := Lib.hid (notAt_right hlt HEX.out hri)
                clear hX7
                go_wp2_with fail
                refine ⟨⟨n + 1, by omega, by go_num, fun j hj => ?_, HB7.out⟩, by simp [intOf]; omega⟩
                by_cases hj' : j < n
                · exact NO.out j hj'
                · obtain rfl : j = n := by omega
                  exact HN.out
              · have HF := Lib.hid (fine_of_right hlt hKb hri)
                have x0 : w7.cell? ⟨w3.heap.size, 0, none⟩ = some (.int .i64 (Ip.refRow n).op) := cell_in hX7 0
                have x1' : w7.cell? ⟨w3.heap.size, 1, none⟩ = some (.int .i64 (A : Int)) := cell_in hX7 1
                have x2' : w7.cell? ⟨w3.heap.size, 2, none⟩ = some (.int .i64 (B : Int)) := cell_in hX7 2
                have x3' : w7.cell? ⟨w3.heap.size, 3, none⟩ = some (.int .u32 (K' : Int)) := cell_in hX7 3
                have z1' := free_in hX7 1
                have z2' := free_in hX7 2
                have z3' := free_in hX7 3
                have HX7 := Lib.hid hX7
                clear hX7
                go_wp2_with fail
                refine (refPrint_at hlt HF.out _).mono ?_
                rintro e w8 ⟨rfl, hb8⟩
                have hX8 := (hb8.block _ (lt_of_block HX7.out)).trans HX7.out
                have HB8 := Lib.hid (HB7.out.trans (hb8.mono HB7.out.size))
                clear x0 x1' x2' x3' z1' z2' z3'
                clear hb8
                by_cases hts : itxt (Ip.refRow n) (A) (B) (K') = s
                · have htb : ((itxt (Ip.refRow n) (A) (B) (K')).toList == s.toList) = true := by rw [hts]; exact beq_self_eq_true _
                  have HE : Hid (RParseEnd s (.returned (.tuple #[insV (Ip.refRow n).op (A : Int) (B : Int) (K' : Int), .bool true]))) := Lib.hid (.inl ⟨Ip.refRow n, _, _, _, ref_mem n hlt, HF.out, hts.symm, rfl⟩)
                  have x0 : w8.cell? ⟨w3.heap.size, 0, none⟩ = some (.int .i64 (Ip.refRow n).op) := cell_in hX8 0
                  have x1' : w8.cell? ⟨w3.heap.size, 1, none⟩ = some (.int .i64 (A : Int)) := cell_in hX8 1
                  have x2' : w8.cell? ⟨w3.heap.size, 2, none⟩ = some (.int .i64 (B : Int)) := cell_in hX8 2
                  have x3' : w8.cell? ⟨w3.heap.size, 3, none⟩ = some (.int .u32 (K' : Int)) := cell_in hX8 3
                  have z1' := free_in hX8 1
                  have z2' := free_in hX8 2
                  have z3' := free_in hX8 3
                  have hRr := (HB8.out.block _ hr2).trans HR2.out
                  have r0 : w8.cell? ⟨w.heap.size, 0, none⟩ = some (.int .i64 0) := cell_in hRr 0
                  have r1 : w8.cell? ⟨w.heap.size, 1, none⟩ = some (.int .i64 0) := cell_in hRr 1
                  have r2 : w8.cell? ⟨w.heap.size, 2, none⟩ = some (.int .i64 0) := cell_in hRr 2
                  have r3 : w8.cell? ⟨w.heap.size, 3, none⟩ = some (.int .u32 0) := cell_in hRr 3
                  have f0 := free_in hRr 0
                  have f1 := free_in hRr 1
                  have f2 := free_in hRr 2
                  have f3 := free_in hRr 3
                  have HBf := Lib.hid (HBw2.out.trans (HB8.out.mono HBw2.out.size))
                  clear hRr hX8 hts
                  go_wp2_with fail
                  (try simp only [Exit.inBlock, Exit.then])
                  refine bodyPost_ret (v := .tuple #[.agg #[.int .i64 (Ip.refRow n).op, .int .i64 (A : Int), .int .i64 (B : Int), .int .u32 (K' : Int)], .bool true]) ?_ rfl ⟨HE.out, ?_⟩
                  · rw [results_cell_tmp rfl]
                    go_simp
                  · have hB := HBf.out
                    go_grown
                · have htb : ((itxt (Ip.refRow n) (A) (B) (K')).toList == s.toList) = false := by
                    rw [beq_eq_false_iff_ne]
                    intro e
                    rw [Go.ByteArray.toList_eq, Go.ByteArray.toList_eq] at e
                    exact hts (by apply ByteArray.ext; apply Array.ext'; exact e)
                  have HN := Lib.hid (notAt_text HEX.out hts)
                  clear hts hX8
                  go_wp2_with fail
                  refine ⟨⟨n + 1, by omega, by go_num, fun j hj => ?_, HB8.out⟩, by simp [intOf]; omega⟩
                  by_cases hj' : j < n
                  · exact NO.out j hj'
                  · obtain rfl : j = n := by omega
                    exact HN.out
            · by_cases hl2' : l.length = 2
              · obtain ⟨y, z, rfl⟩ := len2 hl2'
                obtain rfl := HA2.out (by simp)
                have hy : (⟨y.toArray⟩ : ByteArray).size ≤ 4611686018427387904 := HML.out y (by simp)
                have hz : (⟨z.toArray⟩ : ByteArray).size ≤ 4611686018427387904 := HML.out z (by simp)
                have cy2 : w2.cell? ⟨g, off, none⟩ = some (.string ⟨y.toArray⟩) := HCL.out 0 (by simp)
                have cz2 : w2.cell? ⟨g, off + 1, none⟩ = some (.string ⟨z.toArray⟩) := HCL.out 1 (by simp)
                have cy : W4.cell? ⟨g, off, none⟩ = some (.string ⟨y.toArray⟩) := (HB4.out.cell (p := ⟨g, off, none⟩) hg2).trans cy2
                have HCZ := Lib.hid cz2
                clear cy2 cz2 hl2'
                go_wp2_with (first | (go_at_call 42; refine (plain_any _ _).mono ?_; rintro e w' ⟨rfl, rfl⟩) | (go_at_call 43; refine (rbranch_any _ _).mono ?_; rintro e w' ⟨rfl, rfl⟩))
                refine (refParse_any _ _ hy).mono ?_
                rintro e w5 ⟨p, bp, HPp, rfl, hb5⟩
                have HX5 := Lib.hid ((hb5.block _ (lt_of_block HX4.out)).trans HX4.out)
                have HB5 := Lib.hid (HB4.out.trans (hb5.mono HB4.out.size))
                have cz : w5.cell? ⟨g, off + 1, none⟩ = some (.string ⟨z.toArray⟩) := (HB5.out.cell (p := ⟨g, off + 1, none⟩) hg2).trans HCZ.out
                clear hb5 cy
                go_wp2_with fail
                refine (refParse_any _ _ hz).mono ?_
                rintro e w6 ⟨q, bq, HQq, rfl, hb6⟩
                have hX6' := (hb6.block _ (lt_of_block HX5.out)).trans HX5.out
                have HB6' := Lib.hid (HB5.out.trans (hb6.mono HB5.out.size))
                have x0 : w6.cell? ⟨w3.heap.size, 0, none⟩ = some (.int .i64 (Ip.refRow n).op) := cell_in hX6' 0
                have x1' : w6.cell? ⟨w3.heap.size, 1, none⟩ = some (.int .i64 ((0 : Nat) : Int)) := cell_in hX6' 1
                have x2' : w6.cell? ⟨w3.heap.size, 2, none⟩ = some (.int .i64 ((0 : Nat) : Int)) := cell_in hX6' 2
                have x3' : w6.cell? ⟨w3.heap.size, 3, none⟩ = some (.int .u32 (K : Int)) := cell_in hX6' 3
                have z1' := free_in hX6' 1
                have z2' := free_in hX6' 2
                have z3' := free_in hX6' 3
                have HX6' := Lib.hid hX6'
                have hp64 : (p : Int) ≤ 18446744073709551615 := by have := HPp.out.1; omega
                have hq64 : (q : Int) ≤ 18446744073709551615 := by have := HQq.out.1; omega
                clear hb6 cz hX6'
                go_upto_region 18 with fail
                obtain ⟨W6, hW6, HX6, HB6⟩ : ∃ W6, W6 = (w6.setCell ⟨w3.heap.size, 1, none⟩ (.int .i64 ((p : Int) % 256))).setCell ⟨w3.heap.size, 2, none⟩ (.int .i64 ((q : Int) % 256)) ∧ Hid (W6.heap[w3.heap.size]? = some (insB (Ip.refRow n).op ((p % 256 : Nat) : Int) ((q % 256 : Nat) : Int) (K : Int))) ∧ Hid (Below w2.heap.size w2 W6) := ⟨_, rfl, Lib.hid (two_set HX6'.out), Lib.hid ((HB6'.out.setCell (p := ⟨w3.heap.size, 1, none⟩) HB3.out.size _).setCell (p := ⟨w3.heap.size, 2, none⟩) HB3.out.size _)⟩
                rw [← hW6]
                clear x0 x1' x2' x3' z1' z2' z3'
                clear hW6
                obtain ⟨A, B, K', HXX, HBX, HEX, hKb⟩ : ∃ A B K' : Nat, Hid (W6.heap[w3.heap.size]? = some (insB (Ip.refRow n).op (A : Int) (B : Int) (K' : Int))) ∧ Hid (Below w2.heap.size w2 W6) ∧ Hid (Exact s n A B K') ∧ K' ≤ 4294967295 := ⟨(p % 256), (q % 256), K, HX6, HB6, Lib.hid (exact_two HH.out hBr' HPp.out HQq.out), hKb0⟩
                have hX6 := HXX.out
                have x0 : W6.cell? ⟨w3.heap.size, 0, none⟩ = some (.int .i64 (Ip.refRow n).op) := cell_in hX6 0
                have x1' : W6.cell? ⟨w3.heap.size, 1, none⟩ = some (.int .i64 (A : Int)) := cell_in hX6 1
                have x2' : W6.cell? ⟨w3.heap.size, 2, none⟩ = some (.int .i64 (B : Int)) := cell_in hX6 2
                have x3' : W6.cell? ⟨w3.heap.size, 3, none⟩ = some (.int .u32 (K' : Int)) := cell_in hX6 3
                have z1' := free_in hX6 1
                have z2' := free_in hX6 2
                have z3' := free_in hX6 3
                clear hX6
                go_wp2_with fail
                refine (refRight_any _ _ _ _ _).mono ?_
                rintro e w7 ⟨rfl, hb7⟩
                have hX7 := (hb7.block _ (lt_of_block HXX.out)).trans HXX.out
                have HB7 := Lib.hid (HBX.out.trans (hb7.mono HBX.out.size))
                clear x0 x1' x2' x3' z1' z2' z3'
                clear hb7
                cases hri : right (Ip.refRow n).op (A : Int) (B : Int) (K' : Int)
                · have HN := Lib.hid (notAt_right hlt HEX.out hri)
                  clear hX7
                  go_wp2_with fail
                  refine ⟨⟨n + 1, by omega, by go_num, fun j hj => ?_, HB7.out⟩, by simp [intOf]; omega⟩
                  by_cases hj' : j < n
                  · exact NO.out j hj'
                  · obtain rfl : j = n := by omega
                    exact HN.out
                · have HF := Lib.hid (fine_of_right hlt hKb hri)
                  have x0 : w7.cell? ⟨w3.heap.size, 0, none⟩ = some (.int .i64 (Ip.refRow n).op) := cell_in hX7 0
                  have x1' : w7.cell? ⟨w3.heap.size, 1, none⟩ = some (.int .i64 (A : Int)) := cell_in hX7 1
                  have x2' : w7.cell? ⟨w3.heap.size, 2, none⟩ = some (.int .i64 (B : Int)) := cell_in hX7 2
                  have x3' : w7.cell? ⟨w3.heap.size, 3, none⟩ = some (.int .u32 (K' : Int)) := cell_in hX7 3
                  have z1' := free_in hX7 1
                  have z2' := free_in hX7 2
                  have z3' := free_in hX7 3
                  have HX7 := Lib.hid hX7
                  clear hX7
                  go_wp2_with fail
                  refine (refPrint_at hlt HF.out _).mono ?_
                  rintro e w8 ⟨rfl, hb8⟩
                  have hX8 := (hb8.block _ (lt_of_block HX7.out)).trans HX7.out
                  have HB8 := Lib.hid (HB7.out.trans (hb8.mono HB7.out.size))
                  clear x0 x1' x2' x3' z1' z2' z3'
                  clear hb8
                  by_cases hts : itxt (Ip.refRow n) (A) (B) (K') = s
                  · have htb : ((itxt (Ip.refRow n) (A) (B) (K')).toList == s.toList) = true := by rw [hts]; exact beq_self_eq_true _
                    have HE : Hid (RParseEnd s (.returned (.tuple #[insV (Ip.refRow n).op (A : Int) (B : Int) (K' : Int), .bool true]))) := Lib.hid (.inl ⟨Ip.refRow n, _, _, _, ref_mem n hlt, HF.out, hts.symm, rfl⟩)
                    have x0 : w8.cell? ⟨w3.heap.size, 0, none⟩ = some (.int .i64 (Ip.refRow n).op) := cell_in hX8 0
                    have x1' : w8.cell? ⟨w3.heap.size, 1, none⟩ = some (.int .i64 (A : Int)) := cell_in hX8 1
                    have x2' : w8.cell? ⟨w3.heap.size, 2, none⟩ = some (.int .i64 (B : Int)) := cell_in hX8 2
                    have x3' : w8.cell? ⟨w3.heap.size, 3, none⟩ = some (.int .u32 (K' : Int)) := cell_in hX8 3
                    have z1' := free_in hX8 1
                    have z2' := free_in hX8 2
                    have z3' := free_in hX8 3
                    have hRr := (HB8.out.block _ hr2).trans HR2.out
                    have r0 : w8.cell? ⟨w.heap.size, 0, none⟩ = some (.int .i64 0) := cell_in hRr 0
                    have r1 : w8.cell? ⟨w.heap.size, 1, none⟩ = some (.int .i64 0) := cell_in hRr 1
                    have r2 : w8.cell? ⟨w.heap.size, 2, none⟩ = some (.int .i64 0) := cell_in hRr 2
                    have r3 : w8.cell? ⟨w.heap.size, 3, none⟩ = some (.int .u32 0) := cell_in hRr 3
                    have f0 := free_in hRr 0
                    have f1 := free_in hRr 1
                    have f2 := free_in hRr 2
                    have f3 := free_in hRr 3
                    have HBf := Lib.hid (HBw2.out.trans (HB8.out.mono HBw2.out.size))
                    clear hRr hX8 hts
                    go_wp2_with fail
                    (try simp only [Exit.inBlock, Exit.then])
                    refine bodyPost_ret (v := .tuple #[.agg #[.int .i64 (Ip.refRow n).op, .int .i64 (A : Int), .int .i64 (B : Int), .int .u32 (K' : Int)], .bool true]) ?_ rfl ⟨HE.out, ?_⟩
                    · rw [results_cell_tmp rfl]
                      go_simp
                    · have hB := HBf.out
                      go_grown
                  · have htb : ((itxt (Ip.refRow n) (A) (B) (K')).toList == s.toList) = false := by
                      rw [beq_eq_false_iff_ne]
                      intro e
                      rw [Go.ByteArray.toList_eq, Go.ByteArray.toList_eq] at e
                      exact hts (by apply ByteArray.ext; apply Array.ext'; exact e)
                    have HN := Lib.hid (notAt_text HEX.out hts)
                    clear hts hX8
                    go_wp2_with fail
                    refine ⟨⟨n + 1, by omega, by go_num, fun j hj => ?_, HB8.out⟩, by simp [intOf]; omega⟩
                    by_cases hj' : j < n
                    · exact NO.out j hj'
                    · obtain rfl : j = n := by omega
                      exact HN.out
              · have hlb : ((l.length : Int) == 2) = false := by simp; omega
                go_upto_region 18 with (first | (go_at_call 42; refine (plain_any _ _).mono ?_; rintro e w' ⟨rfl, rfl⟩) | (go_at_call 43; refine (rbranch_any _ _).mono ?_; rintro e w' ⟨rfl, rfl⟩))
                obtain ⟨W6, hW6, HX6, HB6⟩ : ∃ W6, W6 = W4 ∧ Hid (W6.heap[w3.heap.size]? = some (insB (Ip.refRow n).op ((0 : Nat) : Int) ((0 : Nat) : Int) (K : Int))) ∧ Hid (Below w2.heap.size w2 W6) := ⟨_, rfl, HX4, HB4⟩
                rw [← hW6]
                clear hW6
                obtain ⟨A, B, K', HXX, HBX, HEX, hKb⟩ : ∃ A B K' : Nat, Hid (W6.heap[w3.heap.size]? = some (insB (Ip.refRow n).op (A : Int) (B : Int) (K' : Int))) ∧ Hid (Below w2.heap.size w2 W6) ∧ Hid (Exact s n A B K') ∧ K' ≤ 4294967295 := ⟨0, 0, K, HX6, HB6, Lib.hid (exact_len HH.out hBr' hl2' 0 0), hKb0⟩
                have hX6 := HXX.out
                have x0 : W6.cell? ⟨w3.heap.size, 0, none⟩ = some (.int .i64 (Ip.refRow n).op) := cell_in hX6 0
                have x1' : W6.cell? ⟨w3.heap.size, 1, none⟩ = some (.int .i64 (A : Int)) := cell_in hX6 1
                have x2' : W6.cell? ⟨w3.heap.size, 2, none⟩ = some (.int .i64 (B : Int)) := cell_in hX6 2
                have x3' : W6.cell? ⟨w3.heap.size, 3, none⟩ = some (.int .u32 (K' : Int)) := cell_in hX6 3
                have z1' := free_in hX6 1
                have z2' := free_in hX6 2
                have z3' := free_in hX6 3
                clear hX6
                go_wp2_with fail
                refine (refRight_any _ _ _ _ _).mono ?_
                rintro e w7 ⟨rfl, hb7⟩
                have hX7 := (hb7.block _ (lt_of_block HXX.out)).trans HXX.out
                have HB7 := Lib.hid (HBX.out.trans (hb7.mono HBX.out.size))
                clear x0 x1' x2' x3' z1' z2' z3'
                clear hb7
                cases hri : right (Ip.refRow n).op (A : Int) (B : Int) (K' : Int)
                · have HN := Lib.hid (notAt_right hlt HEX.out hri)
                  clear hX7
                  go_wp2_with fail
                  refine ⟨⟨n + 1, by omega, by go_num, fun j hj => ?_, HB7.out⟩, by simp [intOf]; omega⟩
                  by_cases hj' : j < n
                  · exact NO.out j hj'
                  · obtain rfl : j = n := by omega
                    exact HN.out
                · have HF := Lib.hid (fine_of_right hlt hKb hri)
                  have x0 : w7.cell? ⟨w3.heap.size, 0, none⟩ = some (.int .i64 (Ip.refRow n).op) := cell_in hX7 0
                  have x1' : w7.cell? ⟨w3.heap.size, 1, none⟩ = some (.int .i64 (A : Int)) := cell_in hX7 1
                  have x2' : w7.cell? ⟨w3.heap.size, 2, none⟩ = some (.int .i64 (B : Int)) := cell_in hX7 2
                  have x3' : w7.cell? ⟨w3.heap.size, 3, none⟩ = some (.int .u32 (K' : Int)) := cell_in hX7 3
                  have z1' := free_in hX7 1
                  have z2' := free_in hX7 2
                  have z3' := free_in hX7 3
                  have HX7 := Lib.hid hX7
                  clear hX7
                  go_wp2_with fail
                  refine (refPrint_at hlt HF.out _).mono ?_
                  rintro e w8 ⟨rfl, hb8⟩
                  have hX8 := (hb8.block _ (lt_of_block HX7.out)).trans HX7.out
                  have HB8 := Lib.hid (HB7.out.trans (hb8.mono HB7.out.size))
                  clear x0 x1' x2' x3' z1' z2' z3'
                  clear hb8
                  by_cases hts : itxt (Ip.refRow n) (A) (B) (K') = s
                  · have htb : ((itxt (Ip.refRow n) (A) (B) (K')).toList == s.toList) = true := by rw [hts]; exact beq_self_eq_true _
                    have HE : Hid (RParseEnd s (.returned (.tuple #[insV (Ip.refRow n).op (A : Int) (B : Int) (K' : Int), .bool true]))) := Lib.hid (.inl ⟨Ip.refRow n, _, _, _, ref_mem n hlt, HF.out, hts.symm, rfl⟩)
                    have x0 : w8.cell? ⟨w3.heap.size, 0, none⟩ = some (.int .i64 (Ip.refRow n).op) := cell_in hX8 0
                    have x1' : w8.cell? ⟨w3.heap.size, 1, none⟩ = some (.int .i64 (A : Int)) := cell_in hX8 1
                    have x2' : w8.cell? ⟨w3.heap.size, 2, none⟩ = some (.int .i64 (B : Int)) := cell_in hX8 2
                    have x3' : w8.cell? ⟨w3.heap.size, 3, none⟩ = some (.int .u32 (K' : Int)) := cell_in hX8 3
                    have z1' := free_in hX8 1
                    have z2' := free_in hX8 2
                    have z3' := free_in hX8 3
                    have hRr := (HB8.out.block _ hr2).trans HR2.out
                    have r0 : w8.cell? ⟨w.heap.size, 0, none⟩ = some (.int .i64 0) := cell_in hRr 0
                    have r1 : w8.cell? ⟨w.heap.size, 1, none⟩ = some (.int .i64 0) := cell_in hRr 1
                    have r2 : w8.cell? ⟨w.heap.size, 2, none⟩ = some (.int .i64 0) := cell_in hRr 2
                    have r3 : w8.cell? ⟨w.heap.size, 3, none⟩ = some (.int .u32 0) := cell_in hRr 3
                    have f0 := free_in hRr 0
                    have f1 := free_in hRr 1
                    have f2 := free_in hRr 2
                    have f3 := free_in hRr 3
                    have HBf := Lib.hid (HBw2.out.trans (HB8.out.mono HBw2.out.size))
                    clear hRr hX8 hts
                    go_wp2_with fail
                    (try simp only [Exit.inBlock, Exit.then])
                    refine bodyPost_ret (v := .tuple #[.agg #[.int .i64 (Ip.refRow n).op, .int .i64 (A : Int), .int .i64 (B : Int), .int .u32 (K' : Int)], .bool true]) ?_ rfl ⟨HE.out, ?_⟩
                    · rw [results_cell_tmp rfl]
                      go_simp
                    · have hB := HBf.out
                      go_grown
                  · have htb : ((itxt (Ip.refRow n) (A) (B) (K')).toList == s.toList) = false := by
                      rw [beq_eq_false_iff_ne]
                      intro e
                      rw [Go.ByteArray.toList_eq, Go.ByteArray.toList_eq] at e
                      exact hts (by apply ByteArray.ext; apply Array.ext'; exact e)
                    have HN := Lib.hid (notAt_text HEX.out hts)
                    clear hts hX8
                    go_wp2_with fail
                    refine ⟨⟨n + 1, by omega, by go_num, fun j hj => ?_, HB8.out⟩, by simp [intOf]; omega⟩
                    by_cases hj' : j < n
                    · exact NO.out j hj'
                    · obtain rfl : j = n := by omega
                      exact HN.out
      · have hwb : ((wordAt n).toList == sh.toList) = false := by
          rw [beq_eq_false_iff_ne]
          intro e
          rw [Go.ByteArray.toList_eq, Go.ByteArray.toList_eq] at e
          exact hw (by apply ByteArray.ext; apply Array.ext'; exact e)
        have HN := Lib.hid (notAt_word hlt HP.out (by rw [← HSH.out]; exact hw))
        clear hw
        go_wp2_with fail
        go_quiet (fail)
        go_wp2_with fail
        refine ⟨⟨n + 1, by omega, by go_num, fun j hj => ?_, ?_⟩, by simp [intOf]; omega⟩
        · by_cases hj' : j < n
          · exact NO.out j hj'
          · obtain rfl : j = n := by omega
            exact HN.out
        · exact below_drewN HBr.out _
    · have hB39 : n = 39 := by omega
      have HE := Lib.hid (rparse_none fun i hi => NO.out i (by omega))
      have hRr := (HBr.out.block _ hr2).trans HR2.out
      have r0 : wr.cell? ⟨w.heap.size, 0, none⟩ = some (.int .i64 0) := cell_in hRr 0
      have r1 : wr.cell? ⟨w.heap.size, 1, none⟩ = some (.int .i64 0) := cell_in hRr 1
      have r2 : wr.cell? ⟨w.heap.size, 2, none⟩ = some (.int .i64 0) := cell_in hRr 2
      have r3 : wr.cell? ⟨w.heap.size, 3, none⟩ = some (.int .u32 0) := cell_in hRr 3
      have f0 := free_in hRr 0
      have f1 := free_in hRr 1
      have f2 := free_in hRr 2
      have f3 := free_in hRr 3
      have HBf := Lib.hid (HBw2.out.trans (HBr.out.mono HBw2.out.size))
      subst hB39
      clear hRr
      go_wp2_with fail
      (try simp only [Exit.inBlock, Exit.then])
      refine bodyPost_ret (v := .tuple #[.agg #[.int .i64 0, .int .i64 0, .int .i64 0, .int .u32 0], .bool false]) ?_ rfl ⟨HE.out, ?_⟩
      · rw [results_cell_tmp rfl]
        go_simp
      · have hB := HBf.out
        go_grown
end Go.Proofs.YtbndnkicmlecoaaDoor
