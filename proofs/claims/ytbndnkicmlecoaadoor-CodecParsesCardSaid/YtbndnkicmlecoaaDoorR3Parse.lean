/-
  The document's own way (package hurdleref03): Parse.
-/
import Derived.Test.YtbndnkicmlecoaaDoorCParse
import Derived.Test.YtbndnkicmlecoaaDoorRParseW
import Derived.Test.YtbndnkicmlecoaaDoorApp
namespace Go.Proofs.YtbndnkicmlecoaaDoor
open Go.ChangeShapes Go.WideShapes Go.ChangeAt Go.RowKit
set_option maxRecDepth 100000

theorem rparse_ins {p : List UInt8} {e : Ending} (h : RParseEnd ⟨p.toArray⟩ e) : (∃ (r : Ip.Row) (a b c : Nat), insOf p = some ⟨r.op, a, b, c⟩ ∧ e = .returned (.tuple #[insV r.op a b c, .bool true])) ∨ (insOf p = none ∧ e = .returned (.tuple #[insV 0 0 0 0, .bool false])) := by
  rcases h with ⟨r, a, b, c, hr, hf, hs, rfl⟩ | ⟨hno, rfl⟩
  · refine .inl ⟨r, a, b, c, insOf_row hr hf ?_, rfl⟩
    have := congrArg (fun s => s.data.toList) hs
    rw [itxt_list] at this
    simpa using this
  · refine .inr ⟨insOf_no fun r a b c hr hf hp => hno r a b c hr hf ?_, rfl⟩
    rw [hp]
    rfl

set_option maxHeartbeats 8000000 in
theorem r3parse_any (s : ByteArray) (w : World) (hs : s.size ≤ 1099511627776) :
    Calls Tryd.prog 20 #[.string s] w (CParseEnd s.data.toList w) := by
  obtain ⟨i0, hi, hz0, hz1, hz2⟩ := info_parts infoX
  go_enter Tryd.func20, Tryd.ntmps20
  go_wp2_with fail
  refine (rcut_any s 10 w hs).mono ?_
  rintro e w1 ⟨v1, rfl, hO1, hb1⟩
  obtain ⟨ps, hps⟩ : ∃ ps, ps = Ip.cutAll 10 [] s.data.toList := ⟨_, rfl⟩
  have hlen := Ip.cutAll_len 10 s.data.toList []
  have hmem := Ip.cutAll_mem 10 s.data.toList []
  have hsl : s.data.toList.length = s.size := rfl
  have hne := Ip.cutAll_ne 10 s.data.toList []
  have hRD : rdL s.data.toList = rd [] ps := by rw [hps]; rfl
  rw [← hps] at hO1 hlen hmem hne
  have hpl : ps.length ≤ 1099511627777 := by omega
  have hpos : 0 < ps.length := List.length_pos_iff.2 hne
  obtain ⟨g, vc, rfl, hg, hvc, hcell⟩ : ∃ g c, v1 = .slice (some ⟨g, 0, none⟩) ps.length c ∧ g < w1.heap.size ∧ ps.length ≤ c ∧ ∀ i (h : i < ps.length), w1.cell? ⟨g, i, none⟩ = some (.string ⟨ps[i].toArray⟩) := by
    rcases hO1.2 with ⟨rfl, h0⟩ | ⟨g, cap, cur, rfl, _, hg, hc, _, _, ht⟩
    · omega
    · refine ⟨g, cap, rfl, lt_of_block hg, hc, fun i hi => ?_⟩
      rw [cell_in hg i, ← Array.getElem?_toList]
      have hu : (strs ps)[i]? = some (.string ⟨ps[i].toArray⟩) := by simp [hi]
      rw [← ht, List.getElem?_take, if_pos (by omega)] at hu
      exact hu
  have HC := Lib.hid hcell
  have HR := Lib.hid hRD
  have HM : Hid (∀ y ∈ ps, y.length ≤ 1099511627776) := Lib.hid fun y hy => by have := hmem y hy; simp at this; omega
  have HB1 := Lib.hid hb1
  have hs1 := hb1.size
  clear hcell hRD hmem hlen hsl hne hps hO1 hb1
  go_wp2_with fail
  go_loopw [6, 7] (fun u i wr => ∃ acc : List X4, acc.length ≤ ps.length ∧ i = .int .i64 acc.length ∧ wr.ownsRow w1.heap.size 48 4 u acc.length (fcells acc) ∧ rdL s.data.toList = rd acc (ps.drop acc.length) ∧ Below w1.heap.size w1 wr) (fun _ i _ => ps.length - (intOf i).toNat)
  case atStart => exact ⟨[], by simp, rfl, World.ownsRow_nil _ _ _ _, by simpa using HR.out, Below.refl _ _⟩
  case round =>
    obtain ⟨acc, hal, rfl, hO, hRr, hB⟩ := hrel
    obtain ⟨ao, cap, rfl⟩ := own_shape hO
    have HO := Lib.hid hO
    have HRr := Lib.hid hRr
    have HB := Lib.hid hB
    have HBw := Lib.hid (HB1.out.trans (hB.mono hs1))
    have hsr := hB.size
    clear hO hRr hB HR
    by_cases hlt : acc.length < ps.length
    · obtain ⟨p, hp⟩ : ∃ p, p = ps[acc.length] := ⟨_, rfl⟩
      have hd : ps.drop acc.length = p :: ps.drop (acc.length + 1) := by rw [hp]; exact List.drop_eq_getElem_cons hlt
      have hcp : wr.cell? ⟨g, acc.length, none⟩ = some (.string ⟨p.toArray⟩) := by rw [hp]; exact (HB.out.cell (p := ⟨g, _, none⟩) hg).trans (HC.out _ hlt)
      have hpz : p.length ≤ 1099511627776 := by rw [hp]; exact HM.out _ (List.getElem_mem hlt)
      have HD : Hid (rdL s.data.toList = rd acc (p :: ps.drop (acc.length + 1))) := Lib.hid (by rw [HRr.out, hd])
      clear hp hd
      by_cases hlast : acc.length + 1 = ps.length
      · have hlb : ((acc.length : Int) == (ps.length : Int) - 1) = true := by simp; omega
        have HL : Hid (ps.drop (acc.length + 1) = []) := Lib.hid (List.drop_eq_nil_of_le (by omega))
        clear hlast
        by_cases hp0 : p = []
        · subst hp0
          have HE : Hid (rdL s.data.toList = (acc, 0, 0)) := Lib.hid (by rw [HD.out, HL.out, rd_end])
          have HF := Lib.hid (FAt.own HO.out rfl)
          go_wp2_with fail
          go_ret3
          exact cparseEnd HE.out HF.out HBw.out
        · have hpb : p.isEmpty = false := by simpa using hp0
          by_cases hfull : 4096 ≤ acc.length
          · have HE : Hid (rdL s.data.toList = ([], acc.length, 3)) := Lib.hid (by rw [HD.out, HL.out, rd_full (fun h => hp0 h.2) hfull])
            clear hp0
            go_wp2_with fail
            go_ret3
            exact cparseEnd_bad HE.out HBw.out
          · have HE : Hid (rdL s.data.toList = ([], acc.length, 2)) := Lib.hid (by rw [HD.out, HL.out, rd_last hp0 (by omega)])
            clear hp0
            go_wp2_with fail
            refine (rparse_any ⟨p.toArray⟩ _ hpz).mono ?_
            rintro e w2 ⟨he2, hb2⟩
            have HB2 := Lib.hid (HBw.out.trans (hb2.mono HBw.out.size))
            clear hb2
            rcases rparse_ins he2 with ⟨r, a, b, c, _, rfl⟩ | ⟨_, rfl⟩
            · go_wp2_with fail
              go_ret3
              exact cparseEnd_bad HE.out (ba (insB r.op a b c) HB2.out)
            · go_wp2_with fail
              go_ret3
              exact cparseEnd_bad HE.out (ba (insB 0 0 0 0) HB2.out)
      · have hlb : ((acc.length : Int) == (ps.length : Int) - 1) = false := by simp; omega
        have HL : Hid (ps.drop (acc.length + 1) ≠ []) := Lib.hid (fun h => by have := List.drop_eq_nil_iff.1 h; omega)
        by_cases hfull : 4096 ≤ acc.length
        · have HE : Hid (rdL s.data.toList = ([], acc.length, 3)) := Lib.hid (by rw [HD.out, rd_full (fun h => HL.out h.1) hfull])
          clear hlast
          go_wp2_with fail
          go_ret3
          exact cparseEnd_bad HE.out HBw.out
        · clear hlast
          go_wp2_with fail
          refine (rparse_any ⟨p.toArray⟩ _ hpz).mono ?_
          rintro e w2 ⟨he2, hb2⟩
          have HB2 := Lib.hid (HBw.out.trans (hb2.mono HBw.out.size))
          have HB2' := Lib.hid (HB.out.trans (hb2.mono HB.out.size))
          have HO2 := Lib.hid (own_below HO.out hb2)
          have hs2 := HB2'.out.size
          clear hb2 HO HB hcp
          rcases rparse_ins he2 with ⟨r, a, b, c, hins, rfl⟩ | ⟨hins, rfl⟩
          · have HN : Hid (rdL s.data.toList = rd (acc ++ [⟨r.op, a, b, c⟩]) (ps.drop (acc.length + 1))) := Lib.hid (by rw [HD.out, rd_next HL.out (by omega) hins])
            clear hins he2
            go_wp2_with (at_builtin; refine wpList_append_own _ rfl _ _ 22 rfl w1.heap.size 48 i0 (.agg #[.int .i64 0, .int .i64 0, .int .i64 0, .int .u32 0]) 4 32 Tryd.underlying22 hi hz0 hz1 hz2 rfl (by decide) _ _ _ rfl ((HO2.out.alloc (insB r.op a b c)).alloc _) ⟨w2.heap.size + 1, 0, none⟩ 1 1 (X4.mk r.op a b c).cells rfl rfl (by have h := new_at (w2.alloc (insB r.op a b c)) #[.int .i64 r.op, .int .i64 a, .int .i64 b, .int .u32 c] 48; rw [size_alloc] at h; exact h) (by simp [Value.oneCell']) (by unfold maxLen; omega) (by omega) (by rw [size_alloc, size_alloc]; omega) ?_)
            intro v3 w3 hown3 hgrow3 _
            have HB3 := Lib.hid (grown_below ((HB2'.out.alloc hs2 (insB r.op a b c)).alloc (by rw [size_alloc]; omega) (.cells #[.int .i64 r.op, .int .i64 a, .int .i64 b, .int .u32 c] 48)) ((HO2.out.alloc (insB r.op a b c)).alloc _) hgrow3 (by rw [size_alloc, size_alloc]; omega))
            have HO3 : Hid (w3.ownsRow w1.heap.size 48 4 v3 (acc ++ [X4.mk r.op a b c]).length (fcells (acc ++ [X4.mk r.op a b c]))) := Lib.hid (by
              rw [fcells_app, fcells_one, List.length_append]
              exact hown3)
            clear hown3 hgrow3 HO2
            go_wp2_with fail
            go_roundw
            case rel => exact ⟨acc ++ [X4.mk r.op a b c], by rw [List.length_append]; simp; omega, by rw [List.length_append]; go_num, HO3.out, by rw [List.length_append]; exact HN.out, HB3.out⟩
            case measure => simp [intOf]; omega
          · have HE : Hid (rdL s.data.toList = ([], acc.length, 2)) := Lib.hid (by rw [HD.out, rd_bad (fun h => HL.out h.1) (by omega) hins])
            clear hins he2
            go_wp2_with fail
            go_ret3
            exact cparseEnd_bad HE.out (ba (insB 0 0 0 0) HB2.out)
    · have HE : Hid (rdL s.data.toList = (acc, 0, 0)) := Lib.hid (by rw [HRr.out, List.drop_eq_nil_of_le (by omega)]; rfl)
      have HF := Lib.hid (FAt.own HO.out rfl)
      go_wp2_with fail
      go_ret3
      exact cparseEnd HE.out HF.out HBw.out
end Go.Proofs.YtbndnkicmlecoaaDoor
