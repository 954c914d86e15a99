/-
  For every code, all acts, every state and every record, in every world that has the table of package ins as its initialiser lays it: the law CodeSound returns true and changes nothing that was there.
-/
import Derived.Test.YtmbgcfikpndamaaDoorProg
import Derived.WalkKit
import Derived.ProofKit
import Derived.Lib.Hide
import Derived.Laws.Rows
import Derived.Laws.ResultCell
import Derived.Laws.Entries
import Derived.Handy
import Derived.OwnWalk
import Derived.Laws.OwnMore
import Derived.Deep.Draws
import Derived.Laws.IdiomStrings
import Derived.Lib.BufferRead
import Derived.Maps.OwnSet
import Derived.Laws.BitsAllLaws
import Derived.RowKit
import Derived.Lib.QuietBelow
import Derived.Lib.OthersKept
import Derived.BigQuiet
import Derived.Laws.Tables
import Derived.Deep.DeepCutAuto
import Derived.IntWalk
import Derived.Deep.RegionHeld3
import Derived.BigRegion
import Derived.Deep.QuietTactic
import Derived.Test.YtmbgcfikpndamaaDoorRows
import Derived.OpenShut
import Derived.Carry
import Derived.Deep.DeepHandedRow
import Derived.Lib.SmallJoins
import Derived.WalkMore
import Derived.Lib.AppendZerosOnto
import Derived.Lib.SliceRun
import Derived.Test.YtmbgcfikpndamaaDoorCards
import Derived.Test.YtmbgcfikpndamaaDoorTie
import Derived.Lib.LaidTab
import Derived.Stop.LaidErr
import Derived.Deep.Slices
import Derived.Shelf.Strings.Builder1
import Derived.Shelf.Strings.Search1
import Derived.Lib.IndexLaws
import Derived.DeepKeys
import Derived.Laws.StructEq
import Derived.Test.YtmbgcfikpndamaaDoorPk1
import Derived.Test.YtmbgcfikpndamaaDoorPk2
import Derived.Test.YtmbgcfikpndamaaDoorPk3
import Derived.Test.YtmbgcfikpndamaaDoorPk4
import Derived.Test.YtmbgcfikpndamaaDoorPk5
namespace Go.Proofs.YtmbgcfikpndamaaDoor.codeSound
open Go.ChangeShapes Go.WideShapes Go.ChangeAt Go.RowKit

/-- A whole state is read, where the operation is guarded. -/
theorem ld_stG {ops : Array Oper} {rest : List Oper} {o : Oper} {a : Act} {w : World} {Q : Exit → Act → World → Prop} {g : Nat} {s : St} {x : Operand} (hG : w.heap[g]? = some (stB s)) (hw : Region.wanted o (yielded ops a.tmps) = true) (ho : o.op = .load 45 x) (hx : a.eval x = .pointer (some ⟨g, 0, none⟩))
    (h : wpList Tryd.prog ops Q rest (a.put o.dst s.val) w) : wpList Tryd.prog ops Q (o :: rest) a w := by
  unfold wpList
  rw [if_pos hw]
  exact .inl (wp_load_row 45 x ho g hx 45 (stC s) (0, 0) _ hG Tryd.underlying45 rfl (by rw [st_size]; exact infoSt) h)
theorem lab_facts {c : List X4} {T : Int} (h : isLab c T = true) (d : Rec) (s : St) : ∃ p : Nat, (c.length : Int) - T = p ∧ p < c.length ∧ labR c d s T = (fromS c d c.length s p).1 := by
  have h2 := isLab_iff.1 h
  refine ⟨((c.length : Int) - T).toNat, by omega, by omega, rfl⟩
theorem act_facts {c : List X4} {a : A4} {g : G3} (hg : g = doN c a) (hs : SoundL c) (hok : ∀ x ∈ c, x.ok) (hlen : c.length ≤ 600) (hx : a.x.ok) (h1 : a.kind = 0 → oneE a.x 1 = 0) (he : g.2.2 = 0) (d : Rec) (s : St) :
    SoundL g.1 ∧ (∀ x ∈ g.1, x.ok) ∧ 1 ≤ g.2.1 ∧ g.2.1 ≤ g.1.length ∧ g.1.length ≤ c.length + 3 ∧ ∃ p : Nat, (g.1.length : Int) - g.2.1 = p ∧ p < g.1.length ∧
      (¬ a.kind = 0 → (fromS g.1 d g.1.length s p).1 = labR c d s (if a.kind = 1 then atN c a.t else if takesS s ⟨a.x.op, 0, 0, a.x.k⟩ then atN c a.t else atN c a.f)) := by
  subst hg
  obtain ⟨h2, h3⟩ := doN_sound hs (by omega) hx h1 he
  have h4 := isLab_iff.1 h3
  obtain ⟨p, p1, p2, p3⟩ := lab_facts h3 d s
  refine ⟨h2, doN_ok (by omega) hx hok, h4.1, h4.2, (doN_len c a).2, p, p1, p2, fun k0 => ?_⟩
  rw [← p3]
  exact doN_means hs hok (by omega) d s k0 he

set_option maxRecDepth 100000 in
set_option maxHeartbeats 16000000 in
theorem walk (v0 : Value) (c : List X4) (v1 : Value) (l : List A4) (s : St) (d : Rec) (w : World) (hF : CdAt w v0 c) (hk : ∀ x ∈ c, x.ok) (_hm : c.length ≤ 9223372036854775807) (hA : AAt w v1 l) (hok : ∀ x ∈ l, x.ok) (hml : l.length ≤ 9223372036854775807) (hso : s.ok) (hdo : d.ok) (ht : OTab w) :
    Calls Tryd.prog 6 #[v0, v1, s.val, d.val] w fun e w' => e = .returned (.bool true) ∧ Below w.heap.size w w' := by
  obtain ⟨ao, cap, rfl⟩ := hF.shape
  obtain ⟨bo, bcap, rfl⟩ := hA.shape
  have HF := Lib.hid hF
  have HA := Lib.hid hA
  have HO := Lib.hid hok
  have HT := Lib.hid ht
  have HK := Lib.hid hk
  have HSo := Lib.hid hso
  have HDo := Lib.hid hdo
  obtain ⟨m, hm⟩ : ∃ m, m = l.length := ⟨_, rfl⟩
  rw [← hm] at hml HA ⊢
  have HM := Lib.hid hm
  obtain ⟨W, hW, hS, hD, hb⟩ := box2 w (stB s) (.cells d.cells 49)
  have HS := Lib.hid hS
  have HD := Lib.hid hD
  have HB := Lib.hid hb
  clear hF hA hok hm hk hso hdo hS hD hb
  go_enter Tryd.func6, Tryd.ntmps6
  go_upto_region 1 with fail
  rw [← hW]
  clear hW
  by_cases hbig : 500 < c.length
  · go_wp2_with fail
    refine (hknow_end HB.out HT.out).mono ?_
    rintro e w1 ⟨rfl, hb1⟩
    have HB1 := Lib.hid hb1
    clear hb1
    go_wp2_with fail
    go_ret
    exact ⟨rfl, HB1.out⟩
  go_wp2_with fail
  refine (rsound5_any _ c _ (HF.out.1.below HB.out) HK.out).mono ?_
  rintro e w1 ⟨rfl, hb1⟩
  have HB1 := Lib.hid (below2 HB.out (hb1.mono (Nat.le_refl _)))
  have HS1 := Lib.hid (kb hb1 HS.out)
  have HD1 := Lib.hid (kb hb1 HD.out)
  clear hb1
  cases hs : soundB c
  · clear hs
    go_wp2_with fail
    refine (hknow_end HB1.out HT.out).mono ?_
    rintro e wb ⟨rfl, hbb⟩
    have HBB := Lib.hid hbb
    clear hbb
    go_wp2_with fail
    go_ret
    exact ⟨rfl, HBB.out⟩
  have HSd := Lib.hid (soundB_iff.1 hs)
  clear hs
  obtain ⟨G, hG⟩ : ∃ G, G = w.heap.size := ⟨_, rfl⟩
  rw [← hG] at HS1 HD1 HB1 ⊢
  have HGG := Lib.hid hG
  clear hG
  go_wp2_with fail
  go_loopw [0, 9] (fun u i wr => ∃ (n : Nat) (c' : List X4), n ≤ 20 ∧ n ≤ m ∧ i = .int .i64 n ∧ CdAt wr u c' ∧ c'.length ≤ 500 + 3 * n ∧ (SoundL c' ∧ ∀ x ∈ c', x.ok) ∧ wr.heap[G]? = some (stB s) ∧ wr.heap[G + 1]? = some (.cells d.cells 49) ∧ Below G w wr) (fun _ i _ => 20 - (intOf i).toNat)
  case atStart => exact ⟨0, c, by omega, by omega, rfl, HF.out.below (by have := HB1.out; rw [HGG.out] at this; exact this), by omega, ⟨HSd.out, HK.out⟩, HS1.out, HD1.out, HB1.out⟩
  case round =>
    obtain ⟨n, c', h60, hnm, rfl, hC, hlen, hsok, hS, hD, hB⟩ := hrel
    rw [HGG.out] at hB
    have HC := Lib.hid hC
    have HBr := Lib.hid hB
    have HSr := Lib.hid hS
    have HDr := Lib.hid hD
    have HSK := Lib.hid hsok
    obtain ⟨co, ccap, rfl⟩ := hC.shape
    clear hC hB hS hD hsok HS1 HD1 HB1 HS HD HB HSd HK HF
    by_cases h1 : n < m
    · by_cases h2 : n < 20
      · have hl : n < l.length := by have := HM.out; omega
        obtain ⟨b, off, rfl, d0, d1, d2, d3, d4, d5, d6⟩ := (HA.out.below HBr.out).row n hl
        obtain ⟨a, ha⟩ : ∃ a, a = l[n] := ⟨_, rfl⟩
        rw [← ha] at d0 d1 d2 d3 d4 d5 d6
        have hao : a.ok := by rw [ha]; exact HO.out _ (List.getElem_mem hl)
        clear ha hl
        obtain ⟨kind, ⟨op, jt, jf, k0⟩, t, f⟩ := a
        have hk0 : 0 ≤ k0 := hao.1.1
        have hk1 : k0 ≤ 4294967295 := hao.1.2
        obtain ⟨k, rfl⟩ : ∃ k : Nat, k0 = k := ⟨k0.toNat, by omega⟩
        have hk4 : k < 4294967296 := by omega
        have htu : t ≤ 65535 := hao.2.1
        have hfu : f ≤ 65535 := hao.2.2
        have HAO := Lib.hid hao
        have HACT := Lib.hid (fun (h : kind = 0 → oneE ⟨op, jt, jf, (k : Nat)⟩ 1 = 0) (he : (doN c' ⟨kind, ⟨op, jt, jf, (k : Nat)⟩, t, f⟩).2.2 = 0) => act_facts (a := ⟨kind, ⟨op, jt, jf, (k : Nat)⟩, t, f⟩) rfl HSK.out.1 HSK.out.2 (by omega) hao.1 h he d s)
        have hpos : 0 < c'.length := HSK.out.1.1
        have HLT := Lib.hid (lab_facts (atN_lab t hpos) d s)
        have HLF := Lib.hid (lab_facts (atN_lab f hpos) d s)
        have hat : ∀ (q : Nat) (V : World), q ≤ 65535 → Calls Tryd.prog 19 #[.slice co c'.length ccap, .int .u16 (q : Nat)] V fun e w' => e = .returned (.int .i64 (atN c' q)) ∧ V = w' := fun q V h => hat_any co ccap c' q (by omega) h V
        have HAT := Lib.hid hat
        simp only at d0 d1 d2 d3 d4 d5 d6
        clear hao hk0 hk1 hat hpos
        go_upto_region 7 with fail
        change Code.wp _ _ _ _ (wr.alloc (acB ⟨kind, ⟨op, jt, jf, (k : Nat)⟩, t, f⟩))
        obtain ⟨V, hV, X0, HBx⟩ : ∃ V, V = wr.alloc (acB ⟨kind, ⟨op, jt, jf, (k : Nat)⟩, t, f⟩) ∧ V.heap[wr.heap.size]? = some (acB ⟨kind, ⟨op, jt, jf, (k : Nat)⟩, t, f⟩) ∧ Below wr.heap.size wr V := ⟨_, rfl, heap_alloc_new _ _, ba _ (Below.refl _ _)⟩
        rw [← hV]
        have HX := Lib.hid X0
        have HC1 := Lib.hid (HC.out.below HBx)
        have HS1 := Lib.hid (kb HBx HSr.out)
        have HD1 := Lib.hid (kb HBx HDr.out)
        have HB1 := Lib.hid (HBr.out.trans (HBx.mono HBr.out.size))
        clear hV X0 HBx d0 d1 d2 d3 d4 d5 d6
        generalize wr.heap.size = bb at HX ⊢
        obtain ⟨d0, d1, d2, d3, d4, d5, d6⟩ := actX HX.out
        simp only at d0 d1 d2 d3 d4 d5 d6
        by_cases k0 : kind = 0
        · have HKK := Lib.hid k0
          have hkk : (kind == 0) = true := by simpa using k0
          have HAX : X4.ok ⟨op, jt, jf, (k : Nat)⟩ := HAO.out.1
          go_wp2_with fail
          refine (rone_any ⟨op, jt, jf, (k : Nat)⟩ HAX 0 2 (by omega) (by omega) (by omega) _).mono ?_
          rintro e w1 ⟨rfl, hb⟩
          rw [show (2 : Int) - 1 - 0 = 1 by omega]
          clear HAX k0 d0 d1 d2 d3 d4 d5 d6
          replace HX := Lib.hid (kb hb HX.out)
          replace HS1 := Lib.hid (kb hb HS1.out)
          replace HD1 := Lib.hid (kb hb HD1.out)
          replace HC1 := Lib.hid (HC1.out.below hb)
          replace HB1 := Lib.hid (HB1.out.trans (hb.mono HB1.out.size))
          clear hb
          obtain ⟨d0, d1, d2, d3, d4, d5, d6⟩ := actX HX.out
          simp only at d0 d1 d2 d3 d4 d5 d6
          by_cases hone : oneE ⟨op, jt, jf, (k : Nat)⟩ 1 = 0
          · have HON := Lib.hid hone
            have hone2 : (oneE ⟨op, jt, jf, (k : Nat)⟩ 1 == 0) = true := by simpa using hone
            clear hone
            go_wp2_with fail
            refine (hdo_any _ c' ⟨kind, ⟨op, jt, jf, (k : Nat)⟩, t, f⟩ _ HC1.out (by omega) HAO.out (HT.out.below HB1.out)).mono ?_
            rintro e w2 ⟨h, hb⟩
            have hact := HACT.out (fun _ => HON.out)
            obtain ⟨g, hg⟩ : ∃ g, g = doN c' ⟨kind, ⟨op, jt, jf, (k : Nat)⟩, t, f⟩ := ⟨_, rfl⟩
            rw [← hg] at h hact
            have HACT2 := Lib.hid hact
            obtain ⟨u1, h1', _, rfl⟩ := h
            have HG1 := Lib.hid h1'
            replace HX := Lib.hid (kb hb HX.out)
            replace HS1 := Lib.hid (kb hb HS1.out)
            replace HD1 := Lib.hid (kb hb HD1.out)
            replace HC1 := Lib.hid (HC1.out.below hb)
            replace HB1 := Lib.hid (HB1.out.trans (hb.mono HB1.out.size))
            clear hb
            obtain ⟨o1, p1, rfl⟩ := h1'.shape
            clear h1' hact hg
            clear d0 d1 d2 d3 d4 d5 d6
            by_cases he : g.2.2 = 0
            · have he2 : (g.2.2 == 0) = true := by simpa using he
              obtain ⟨sg, okg, l1, l2, l3, p, hp1, hp2, hme⟩ := HACT2.out he
              have HSG := Lib.hid sg
              have HKG := Lib.hid okg
              have HME := Lib.hid hme
              clear sg okg hme he HACT2 HACT
              go_wp2_with fail
              refine (sound_any _ g.1 _ HG1.out.1 HKG.out (HT.out.below HB1.out)).mono ?_
              rintro e w3 ⟨rfl, hb⟩
              rw [soundB_iff.2 HSG.out]
              replace HX := Lib.hid (kb hb HX.out)
              replace HS1 := Lib.hid (kb hb HS1.out)
              replace HD1 := Lib.hid (kb hb HD1.out)
              replace HC1 := Lib.hid (HC1.out.below hb)
              replace HB1 := Lib.hid (HB1.out.trans (hb.mono HB1.out.size))
              replace HG1 := Lib.hid (HG1.out.below hb)
              clear hb
              obtain ⟨d0, d1, d2, d3, d4, d5, d6⟩ := actX HX.out
              simp only at d0 d1 d2 d3 d4 d5 d6
              go_wp2_with fail
              refine (HAT.out t _ htu).mono ?_
              rintro e w4 ⟨rfl, rfl⟩
              obtain ⟨pt, hpt1, hpt2, hpt3⟩ := HLT.out
              have HPT := Lib.hid hpt3
              clear hpt3
              go_upto_region 15 with fail
              clear d0 d1 d2 d3 d4 d5 d6
              obtain ⟨x0, x1, x2, x3, x4, x5, x6, x7, x8⟩ := rec_cells HD1.out
              go_wp2_with (refine ld_st HS1.out rfl rfl rfl ?_)
              refine (rfrom6_any _ g.1 d HDo.out HKG.out HSG.out g.1.length s p _ HG1.out.1 HSo.out hp2 (by omega)).mono ?_
              rintro e w5 ⟨rfl, hb⟩
              obtain ⟨R1, hR1⟩ : ∃ R, R = fromS g.1 d g.1.length s p := ⟨_, rfl⟩
              rw [← hR1]
              clear hR1 x0 x1 x2 x3 x4 x5 x6 x7 x8
              replace HX := Lib.hid (kb hb HX.out)
              replace HS1 := Lib.hid (kb hb HS1.out)
              replace HD1 := Lib.hid (kb hb HD1.out)
              replace HC1 := Lib.hid (HC1.out.below hb)
              replace HB1 := Lib.hid (HB1.out.trans (hb.mono HB1.out.size))
              replace HG1 := Lib.hid (HG1.out.below hb)
              clear hb
              go_upto_region 16 with fail
              obtain ⟨x0, x1, x2, x3, x4, x5, x6, x7, x8⟩ := rec_cells HD1.out
              go_wp2_with (refine ld_st HS1.out rfl rfl rfl ?_)
              refine (rfrom6_any _ c' d HDo.out HSK.out.2 HSK.out.1 c'.length s pt _ HC1.out.1 HSo.out hpt2 (by omega)).mono ?_
              rintro e w6 ⟨rfl, hb⟩
              obtain ⟨R2, hR2⟩ : ∃ R, R = fromS c' d c'.length s pt := ⟨_, rfl⟩
              rw [← hR2]
              clear hR2 x0 x1 x2 x3 x4 x5 x6 x7 x8
              replace HX := Lib.hid (kb hb HX.out)
              replace HS1 := Lib.hid (kb hb HS1.out)
              replace HD1 := Lib.hid (kb hb HD1.out)
              replace HC1 := Lib.hid (HC1.out.below hb)
              replace HB1 := Lib.hid (HB1.out.trans (hb.mono HB1.out.size))
              replace HG1 := Lib.hid (HG1.out.below hb)
              clear hb
              obtain ⟨r1, r2⟩ := R1
              obtain ⟨r3, r4⟩ := R2
              obtain ⟨d0, d1, d2, d3, d4, d5, d6⟩ := actX HX.out
              simp only at d0 d1 d2 d3 d4 d5 d6
              go_wp2_with fail
              go_roundw
              case rel => exact ⟨n + 1, g.1, by omega, by omega, by go_num, HG1.out, by omega, ⟨HSG.out, HKG.out⟩, HS1.out, HD1.out, by rw [HGG.out]; exact HB1.out⟩
              case measure => simp [intOf]; omega
            · have he2 : (g.2.2 == 0) = false := by simpa using he
              clear he
              go_wp2_with fail
              go_roundw
              case rel => exact ⟨n + 1, c', by omega, by omega, by go_num, HC1.out, by omega, HSK.out, HS1.out, HD1.out, by rw [HGG.out]; exact HB1.out⟩
              case measure => simp [intOf]; omega
          · have hone2 : (oneE ⟨op, jt, jf, (k : Nat)⟩ 1 == 0) = false := by simpa using hone
            clear hone d0 d1 d2 d3 d4 d5 d6
            go_wp2_with fail
            go_roundw
            case rel => exact ⟨n + 1, c', by omega, by omega, by go_num, HC1.out, by omega, HSK.out, HS1.out, HD1.out, by rw [HGG.out]; exact HB1.out⟩
            case measure => simp [intOf]; omega
        by_cases k1 : kind = 1
        · have HKK := Lib.hid k1
          have HK0 := Lib.hid k0
          have hkk : (kind == 0) = false := by simpa using k0
          have hkk1 : (kind == 1) = true := by simpa using k1
          have hkn : (kind != 0) = true := by simpa using k0
          have hkn1 : (kind != 1) = false := by simpa using k1
          clear k0 k1
          go_wp2_with fail
          refine (hdo_any _ c' ⟨kind, ⟨op, jt, jf, (k : Nat)⟩, t, f⟩ _ HC1.out (by omega) HAO.out (HT.out.below HB1.out)).mono ?_
          rintro e w2 ⟨h, hb⟩
          have hact := HACT.out (fun h => absurd h HK0.out)
          obtain ⟨g, hg⟩ : ∃ g, g = doN c' ⟨kind, ⟨op, jt, jf, (k : Nat)⟩, t, f⟩ := ⟨_, rfl⟩
          rw [← hg] at h hact
          have HACT2 := Lib.hid hact
          obtain ⟨u1, h1', _, rfl⟩ := h
          have HG1 := Lib.hid h1'
          replace HX := Lib.hid (kb hb HX.out)
          replace HS1 := Lib.hid (kb hb HS1.out)
          replace HD1 := Lib.hid (kb hb HD1.out)
          replace HC1 := Lib.hid (HC1.out.below hb)
          replace HB1 := Lib.hid (HB1.out.trans (hb.mono HB1.out.size))
          clear hb
          obtain ⟨o1, p1, rfl⟩ := h1'.shape
          clear h1' hact hg
          clear d0 d1 d2 d3 d4 d5 d6
          by_cases he : g.2.2 = 0
          · have he2 : (g.2.2 == 0) = true := by simpa using he
            obtain ⟨sg, okg, l1, l2, l3, p, hp1, hp2, hme⟩ := HACT2.out he
            have HSG := Lib.hid sg
            have HKG := Lib.hid okg
            have HME := Lib.hid hme
            clear sg okg hme he HACT2 HACT
            go_wp2_with fail
            refine (sound_any _ g.1 _ HG1.out.1 HKG.out (HT.out.below HB1.out)).mono ?_
            rintro e w3 ⟨rfl, hb⟩
            rw [soundB_iff.2 HSG.out]
            replace HX := Lib.hid (kb hb HX.out)
            replace HS1 := Lib.hid (kb hb HS1.out)
            replace HD1 := Lib.hid (kb hb HD1.out)
            replace HC1 := Lib.hid (HC1.out.below hb)
            replace HB1 := Lib.hid (HB1.out.trans (hb.mono HB1.out.size))
            replace HG1 := Lib.hid (HG1.out.below hb)
            clear hb
            obtain ⟨d0, d1, d2, d3, d4, d5, d6⟩ := actX HX.out
            simp only at d0 d1 d2 d3 d4 d5 d6
            go_wp2_with fail
            refine (HAT.out t _ htu).mono ?_
            rintro e w4 ⟨rfl, rfl⟩
            obtain ⟨pt, hpt1, hpt2, hpt3⟩ := HLT.out
            have HPT := Lib.hid hpt3
            clear hpt3
            have HEQ : Hid ((fromS g.1 d g.1.length s p).1 = (fromS c' d c'.length s pt).1) := Lib.hid (by
              have h := HME.out HK0.out
              simp only [if_pos HKK.out] at h
              exact h.trans HPT.out)
            go_upto_region 15 with fail
            clear d0 d1 d2 d3 d4 d5 d6
            obtain ⟨x0, x1, x2, x3, x4, x5, x6, x7, x8⟩ := rec_cells HD1.out
            go_wp2_with (refine ld_st HS1.out rfl rfl rfl ?_)
            refine (rfrom6_any _ g.1 d HDo.out HKG.out HSG.out g.1.length s p _ HG1.out.1 HSo.out hp2 (by omega)).mono ?_
            rintro e w5 ⟨rfl, hb⟩
            obtain ⟨R1, hR1⟩ : ∃ R, R = fromS g.1 d g.1.length s p := ⟨_, rfl⟩
            rw [← hR1]
            rw [← hR1] at HEQ
            clear hR1 x0 x1 x2 x3 x4 x5 x6 x7 x8
            replace HX := Lib.hid (kb hb HX.out)
            replace HS1 := Lib.hid (kb hb HS1.out)
            replace HD1 := Lib.hid (kb hb HD1.out)
            replace HC1 := Lib.hid (HC1.out.below hb)
            replace HB1 := Lib.hid (HB1.out.trans (hb.mono HB1.out.size))
            replace HG1 := Lib.hid (HG1.out.below hb)
            clear hb
            go_upto_region 16 with fail
            obtain ⟨x0, x1, x2, x3, x4, x5, x6, x7, x8⟩ := rec_cells HD1.out
            go_wp2_with (refine ld_st HS1.out rfl rfl rfl ?_)
            refine (rfrom6_any _ c' d HDo.out HSK.out.2 HSK.out.1 c'.length s pt _ HC1.out.1 HSo.out hpt2 (by omega)).mono ?_
            rintro e w6 ⟨rfl, hb⟩
            obtain ⟨R2, hR2⟩ : ∃ R, R = fromS c' d c'.length s pt := ⟨_, rfl⟩
            rw [← hR2]
            rw [← hR2] at HEQ
            clear hR2 x0 x1 x2 x3 x4 x5 x6 x7 x8
            replace HX := Lib.hid (kb hb HX.out)
            replace HS1 := Lib.hid (kb hb HS1.out)
            replace HD1 := Lib.hid (kb hb HD1.out)
            replace HC1 := Lib.hid (HC1.out.below hb)
            replace HB1 := Lib.hid (HB1.out.trans (hb.mono HB1.out.size))
            replace HG1 := Lib.hid (HG1.out.below hb)
            clear hb
            obtain ⟨r1, r2⟩ := R1
            obtain ⟨r3, r4⟩ := R2
            obtain rfl : r1 = r3 := HEQ.out
            have hrr : ((r1 : Int) == (r1 : Int)) = true := by simp
            obtain ⟨d0, d1, d2, d3, d4, d5, d6⟩ := actX HX.out
            simp only at d0 d1 d2 d3 d4 d5 d6
            go_wp2_with fail
            go_roundw
            case rel => exact ⟨n + 1, g.1, by omega, by omega, by go_num, HG1.out, by omega, ⟨HSG.out, HKG.out⟩, HS1.out, HD1.out, by rw [HGG.out]; exact HB1.out⟩
            case measure => simp [intOf]; omega
          · have he2 : (g.2.2 == 0) = false := by simpa using he
            clear he
            go_wp2_with fail
            go_roundw
            case rel => exact ⟨n + 1, c', by omega, by omega, by go_num, HC1.out, by omega, HSK.out, HS1.out, HD1.out, by rw [HGG.out]; exact HB1.out⟩
            case measure => simp [intOf]; omega
        · have HKK := Lib.hid k1
          have HK0 := Lib.hid k0
          have hkk : (kind == 0) = false := by simpa using k0
          have hkk1 : (kind == 1) = false := by simpa using k1
          have hkn : (kind != 0) = true := by simpa using k0
          have hkn1 : (kind != 1) = true := by simpa using k1
          clear k0 k1
          go_wp2_with fail
          refine (hdo_any _ c' ⟨kind, ⟨op, jt, jf, (k : Nat)⟩, t, f⟩ _ HC1.out (by omega) HAO.out (HT.out.below HB1.out)).mono ?_
          rintro e w2 ⟨h, hb⟩
          have hact := HACT.out (fun h => absurd h HK0.out)
          obtain ⟨g, hg⟩ : ∃ g, g = doN c' ⟨kind, ⟨op, jt, jf, (k : Nat)⟩, t, f⟩ := ⟨_, rfl⟩
          rw [← hg] at h hact
          have HACT2 := Lib.hid hact
          obtain ⟨u1, h1', _, rfl⟩ := h
          have HG1 := Lib.hid h1'
          replace HX := Lib.hid (kb hb HX.out)
          replace HS1 := Lib.hid (kb hb HS1.out)
          replace HD1 := Lib.hid (kb hb HD1.out)
          replace HC1 := Lib.hid (HC1.out.below hb)
          replace HB1 := Lib.hid (HB1.out.trans (hb.mono HB1.out.size))
          clear hb
          obtain ⟨o1, p1, rfl⟩ := h1'.shape
          clear h1' hact hg
          clear d0 d1 d2 d3 d4 d5 d6
          by_cases he : g.2.2 = 0
          · have he2 : (g.2.2 == 0) = true := by simpa using he
            obtain ⟨sg, okg, l1, l2, l3, p, hp1, hp2, hme⟩ := HACT2.out he
            have HSG := Lib.hid sg
            have HKG := Lib.hid okg
            have HME := Lib.hid hme
            clear sg okg hme he HACT2 HACT
            go_wp2_with fail
            refine (sound_any _ g.1 _ HG1.out.1 HKG.out (HT.out.below HB1.out)).mono ?_
            rintro e w3 ⟨rfl, hb⟩
            rw [soundB_iff.2 HSG.out]
            replace HX := Lib.hid (kb hb HX.out)
            replace HS1 := Lib.hid (kb hb HS1.out)
            replace HD1 := Lib.hid (kb hb HD1.out)
            replace HC1 := Lib.hid (HC1.out.below hb)
            replace HB1 := Lib.hid (HB1.out.trans (hb.mono HB1.out.size))
            replace HG1 := Lib.hid (HG1.out.below hb)
            clear hb
            obtain ⟨d0, d1, d2, d3, d4, d5, d6⟩ := actX HX.out
            simp only at d0 d1 d2 d3 d4 d5 d6
            go_wp2_with fail
            refine (HAT.out t _ htu).mono ?_
            rintro e w4 ⟨rfl, rfl⟩
            obtain ⟨pt, hpt1, hpt2, hpt3⟩ := HLT.out
            have HPT := Lib.hid hpt3
            clear hpt3
            go_upto_region 13 with fail
            go_wp2_with (refine ld_stG HS1.out rfl rfl rfl ?_)
            refine (rtakes_any s op 0 0 k _ HSo.out hk4).mono ?_
            rintro e w5 ⟨rfl, hb⟩
            clear d0 d1 d2 d3 d4 d5 d6
            replace HX := Lib.hid (kb hb HX.out)
            replace HS1 := Lib.hid (kb hb HS1.out)
            replace HD1 := Lib.hid (kb hb HD1.out)
            replace HC1 := Lib.hid (HC1.out.below hb)
            replace HB1 := Lib.hid (HB1.out.trans (hb.mono HB1.out.size))
            replace HG1 := Lib.hid (HG1.out.below hb)
            clear hb
            obtain ⟨d0, d1, d2, d3, d4, d5, d6⟩ := actX HX.out
            simp only at d0 d1 d2 d3 d4 d5 d6
            cases htk : takesS s ⟨op, 0, 0, (k : Nat)⟩
            · obtain ⟨pf, hpf1, hpf2, hpf3⟩ := HLF.out
              have HEQ : Hid ((fromS g.1 d g.1.length s p).1 = (fromS c' d c'.length s pf).1) := Lib.hid (by
                have h := HME.out HK0.out
                simp only [if_neg HKK.out, htk, Bool.false_eq_true, if_false] at h
                exact h.trans hpf3)
              clear hpf3 htk
              go_wp2_with fail
              refine (HAT.out f _ hfu).mono ?_
              rintro e w4 ⟨rfl, rfl⟩
              go_upto_region 15 with fail
              clear d0 d1 d2 d3 d4 d5 d6
              obtain ⟨x0, x1, x2, x3, x4, x5, x6, x7, x8⟩ := rec_cells HD1.out
              go_wp2_with (refine ld_st HS1.out rfl rfl rfl ?_)
              refine (rfrom6_any _ g.1 d HDo.out HKG.out HSG.out g.1.length s p _ HG1.out.1 HSo.out hp2 (by omega)).mono ?_
              rintro e w5 ⟨rfl, hb⟩
              obtain ⟨R1, hR1⟩ : ∃ R, R = fromS g.1 d g.1.length s p := ⟨_, rfl⟩
              rw [← hR1]
              rw [← hR1] at HEQ
              clear hR1 x0 x1 x2 x3 x4 x5 x6 x7 x8
              replace HX := Lib.hid (kb hb HX.out)
              replace HS1 := Lib.hid (kb hb HS1.out)
              replace HD1 := Lib.hid (kb hb HD1.out)
              replace HC1 := Lib.hid (HC1.out.below hb)
              replace HB1 := Lib.hid (HB1.out.trans (hb.mono HB1.out.size))
              replace HG1 := Lib.hid (HG1.out.below hb)
              clear hb
              go_upto_region 16 with fail
              obtain ⟨x0, x1, x2, x3, x4, x5, x6, x7, x8⟩ := rec_cells HD1.out
              go_wp2_with (refine ld_st HS1.out rfl rfl rfl ?_)
              refine (rfrom6_any _ c' d HDo.out HSK.out.2 HSK.out.1 c'.length s pf _ HC1.out.1 HSo.out hpf2 (by omega)).mono ?_
              rintro e w6 ⟨rfl, hb⟩
              obtain ⟨R2, hR2⟩ : ∃ R, R = fromS c' d c'.length s pf := ⟨_, rfl⟩
              rw [← hR2]
              rw [← hR2] at HEQ
              clear hR2 x0 x1 x2 x3 x4 x5 x6 x7 x8
              replace HX := Lib.hid (kb hb HX.out)
              replace HS1 := Lib.hid (kb hb HS1.out)
              replace HD1 := Lib.hid (kb hb HD1.out)
              replace HC1 := Lib.hid (HC1.out.below hb)
              replace HB1 := Lib.hid (HB1.out.trans (hb.mono HB1.out.size))
              replace HG1 := Lib.hid (HG1.out.below hb)
              clear hb
              obtain ⟨r1, r2⟩ := R1
              obtain ⟨r3, r4⟩ := R2
              obtain rfl : r1 = r3 := HEQ.out
              have hrr : ((r1 : Int) == (r1 : Int)) = true := by simp
              obtain ⟨d0, d1, d2, d3, d4, d5, d6⟩ := actX HX.out
              simp only at d0 d1 d2 d3 d4 d5 d6
              go_wp2_with fail
              go_roundw
              case rel => exact ⟨n + 1, g.1, by omega, by omega, by go_num, HG1.out, by omega, ⟨HSG.out, HKG.out⟩, HS1.out, HD1.out, by rw [HGG.out]; exact HB1.out⟩
              case measure => simp [intOf]; omega
            · have HEQ : Hid ((fromS g.1 d g.1.length s p).1 = (fromS c' d c'.length s pt).1) := Lib.hid (by
                have h := HME.out HK0.out
                simp only [if_neg HKK.out, htk, if_true] at h
                exact h.trans HPT.out)
              clear htk
              go_upto_region 15 with fail
              clear d0 d1 d2 d3 d4 d5 d6
              obtain ⟨x0, x1, x2, x3, x4, x5, x6, x7, x8⟩ := rec_cells HD1.out
              go_wp2_with (refine ld_st HS1.out rfl rfl rfl ?_)
              refine (rfrom6_any _ g.1 d HDo.out HKG.out HSG.out g.1.length s p _ HG1.out.1 HSo.out hp2 (by omega)).mono ?_
              rintro e w5 ⟨rfl, hb⟩
              obtain ⟨R1, hR1⟩ : ∃ R, R = fromS g.1 d g.1.length s p := ⟨_, rfl⟩
              rw [← hR1]
              rw [← hR1] at HEQ
              clear hR1 x0 x1 x2 x3 x4 x5 x6 x7 x8
              replace HX := Lib.hid (kb hb HX.out)
              replace HS1 := Lib.hid (kb hb HS1.out)
              replace HD1 := Lib.hid (kb hb HD1.out)
              replace HC1 := Lib.hid (HC1.out.below hb)
              replace HB1 := Lib.hid (HB1.out.trans (hb.mono HB1.out.size))
              replace HG1 := Lib.hid (HG1.out.below hb)
              clear hb
              go_upto_region 16 with fail
              obtain ⟨x0, x1, x2, x3, x4, x5, x6, x7, x8⟩ := rec_cells HD1.out
              go_wp2_with (refine ld_st HS1.out rfl rfl rfl ?_)
              refine (rfrom6_any _ c' d HDo.out HSK.out.2 HSK.out.1 c'.length s pt _ HC1.out.1 HSo.out hpt2 (by omega)).mono ?_
              rintro e w6 ⟨rfl, hb⟩
              obtain ⟨R2, hR2⟩ : ∃ R, R = fromS c' d c'.length s pt := ⟨_, rfl⟩
              rw [← hR2]
              rw [← hR2] at HEQ
              clear hR2 x0 x1 x2 x3 x4 x5 x6 x7 x8
              replace HX := Lib.hid (kb hb HX.out)
              replace HS1 := Lib.hid (kb hb HS1.out)
              replace HD1 := Lib.hid (kb hb HD1.out)
              replace HC1 := Lib.hid (HC1.out.below hb)
              replace HB1 := Lib.hid (HB1.out.trans (hb.mono HB1.out.size))
              replace HG1 := Lib.hid (HG1.out.below hb)
              clear hb
              obtain ⟨r1, r2⟩ := R1
              obtain ⟨r3, r4⟩ := R2
              obtain rfl : r1 = r3 := HEQ.out
              have hrr : ((r1 : Int) == (r1 : Int)) = true := by simp
              obtain ⟨d0, d1, d2, d3, d4, d5, d6⟩ := actX HX.out
              simp only at d0 d1 d2 d3 d4 d5 d6
              go_wp2_with fail
              go_roundw
              case rel => exact ⟨n + 1, g.1, by omega, by omega, by go_num, HG1.out, by omega, ⟨HSG.out, HKG.out⟩, HS1.out, HD1.out, by rw [HGG.out]; exact HB1.out⟩
              case measure => simp [intOf]; omega
          · have he2 : (g.2.2 == 0) = false := by simpa using he
            clear he
            go_wp2_with fail
            go_roundw
            case rel => exact ⟨n + 1, c', by omega, by omega, by go_num, HC1.out, by omega, HSK.out, HS1.out, HD1.out, by rw [HGG.out]; exact HB1.out⟩
            case measure => simp [intOf]; omega
      · go_wp2_with fail
        refine (hknow_end HBr.out HT.out).mono ?_
        rintro e w1 ⟨rfl, hb1⟩
        have HB1 := Lib.hid hb1
        clear hb1
        go_wp2_with fail
        go_ret
        exact ⟨rfl, HB1.out⟩
    · go_wp2_with fail
      refine (hknow_end HBr.out HT.out).mono ?_
      rintro e w1 ⟨rfl, hb1⟩
      have HB1 := Lib.hid hb1
      clear hb1
      go_wp2_with fail
      go_ret
      exact ⟨rfl, HB1.out⟩

set_option maxRecDepth 100000 in
/-- The row's contract, for every argument and every world. -/
theorem contract (H : Type) (enc : TypeId × Value → H) (W : World) (base : Nat) (args : Array Value) (ds gs : List (DataW H)) (before : List MemPlace)
    (hval : ∀ (j : Nat) t v, Tryd.f6.params[j]? = some t → args[j]? = some v → Value.okWide Tryd.prog W .any base t v)
    (hW : DataW.Whole enc Tryd.prog Tryd.f6.params.toList Rows.codeSoundSpec.vars false W args.toList ds gs before) (hL : laidMetH Tryd.prog Rows.codeSoundRow.laid W) :
    Calls Tryd.prog 6 args W fun e W' => ∃ v, e = .returned v ∧ Rows.codeSoundSpec.post enc Tryd.prog Tryd.f6 false true false false W args v W' := by
  have hW' := hW
  obtain ⟨p, q, hA0, hV, rfl, hfz, hnd⟩ := hW
  have hA : DataW.TrodAll enc Tryd.prog W 0 (fun _ => true) true Tryd.f6.params.toList args.toList ds p := hA0
  rw [Tryd.params6] at hA hval
  obtain ⟨v0, vs0, d0, ds0, p0, q0, hargs0, rfl, rfl, t0, r0⟩ := trodAll_cons hA
  obtain ⟨v1, vs1, d1, ds1, p1, q1, hargs1, rfl, rfl, t1, r1⟩ := trodAll_cons r0
  obtain ⟨v2, vs2, d2, ds2, p2, q2, hargs2, rfl, rfl, t2, r2⟩ := trodAll_cons r1
  obtain ⟨v3, vs3, d3, ds3, p3, q3, hargs3, rfl, rfl, t3, r3⟩ := trodAll_cons r2
  obtain ⟨rfl, rfl, rfl⟩ := trodAll_nil r3
  obtain rfl : args = #[v0, v1, v2, v3] := by cases args; simp_all
  obtain ⟨c, hF0, hk0, hm0⟩ := open_code (hval 0 22 v0 rfl rfl) t0
  obtain ⟨l, hF1, hk1, hm1⟩ := open_acts (hval 1 23 v1 rfl rfl) t1
  obtain ⟨s, rfl, hd2⟩ := open_state (hval 2 45 v2 rfl rfl) t2
  obtain ⟨d, rfl, hd3⟩ := open_data (hval 3 49 v3 rfl rfl) t3
  refine (walk v0 c v1 l s d W hF0 hk0 hm0 hF1 hk1 hm1 hd2 hd3 (otab1_of hL)).mono fun e W' ⟨he, hg⟩ => ?_
  subst he
  exact ⟨_, rfl, law_post (tb := 4) laidOut (fun t ht => by rw [Tryd.params6] at ht; revert t; exact of_decide_eq_true (by kernel_rfl)) (by kernel_rfl) Tryd.underlying4 rfl
    (fun ds h => by rw [Tryd.params6] at h; match ds, h with | [_, _, _, _], _ => rfl) hW' hg⟩

theorem laid_met (os : Os) : laidMet Tryd.prog Rows.codeSoundRow.laid ((laidWorld1 os).forCall (fun _ _ => 0) ⟨#[], #[.slice none 0 0, .slice none 0 0, .agg #[.int .u32 0, .int .u32 0, .int .u32 0, .int .u32 0, .int .u32 0, .int .u32 0, .int .u32 0, .int .u32 0, .int .u32 0, .int .u32 0, .int .u32 0, .int .u32 0, .int .u32 0, .int .u32 0, .int .u32 0, .int .u32 0, .int .u32 0, .int .u32 0], .agg #[.int .u32 0, .int .u32 0, .int .u64 0, .int .u64 0, .int .u64 0, .int .u64 0, .int .u64 0, .int .u64 0, .int .u64 0]], []⟩).memory :=
  laidMet_of_run' 8 (by kernel_rfl) (by kernel_rfl)
theorem reads (os : Os) {H : Type} (enc : TypeId × Value → H) : ∃ places, DataW.whole enc Tryd.prog ((laidWorld1 os).forCall (fun _ _ => 0) ⟨#[], #[.slice none 0 0, .slice none 0 0, .agg #[.int .u32 0, .int .u32 0, .int .u32 0, .int .u32 0, .int .u32 0, .int .u32 0, .int .u32 0, .int .u32 0, .int .u32 0, .int .u32 0, .int .u32 0, .int .u32 0, .int .u32 0, .int .u32 0, .int .u32 0, .int .u32 0, .int .u32 0, .int .u32 0], .agg #[.int .u32 0, .int .u32 0, .int .u64 0, .int .u64 0, .int .u64 0, .int .u64 0, .int .u64 0, .int .u64 0, .int .u64 0]], []⟩).memory Tryd.f6.params.toList Rows.codeSoundSpec.vars false #[Value.slice none 0 0, Value.slice none 0 0, Value.agg #[.int .u32 0, .int .u32 0, .int .u32 0, .int .u32 0, .int .u32 0, .int .u32 0, .int .u32 0, .int .u32 0, .int .u32 0, .int .u32 0, .int .u32 0, .int .u32 0, .int .u32 0, .int .u32 0, .int .u32 0, .int .u32 0, .int .u32 0, .int .u32 0], Value.agg #[.int .u32 0, .int .u32 0, .int .u64 0, .int .u64 0, .int .u64 0, .int .u64 0, .int .u64 0, .int .u64 0, .int .u64 0]].toList 8 = some ([.nil, .nil, .agg [.lit (.int .u32 0), .lit (.int .u32 0), .agg [.lit (.int .u32 0), .lit (.int .u32 0), .lit (.int .u32 0), .lit (.int .u32 0), .lit (.int .u32 0), .lit (.int .u32 0), .lit (.int .u32 0), .lit (.int .u32 0), .lit (.int .u32 0), .lit (.int .u32 0), .lit (.int .u32 0), .lit (.int .u32 0), .lit (.int .u32 0), .lit (.int .u32 0), .lit (.int .u32 0), .lit (.int .u32 0)]], .agg [.lit (.int .u32 0), .lit (.int .u32 0), .lit (.int .u64 0), .agg [.lit (.int .u64 0), .lit (.int .u64 0), .lit (.int .u64 0), .lit (.int .u64 0), .lit (.int .u64 0), .lit (.int .u64 0)]]], [], places) :=
  ⟨[], by kernel_rfl⟩

set_option maxRecDepth 100000 in
theorem lifted (os : Os) (started : os.Started) (H : Type) (enc : TypeId × Value → H) (F : Stop.Interp) :
    ReturnsInHanded {} Tryd.checked os 6 .any ((OpenSpec.ofChange Rows.codeSoundSpec).preRow enc Tryd.prog Tryd.f6 Rows.codeSoundRow.domain false Rows.codeSoundRow.laid) (((OpenSpec.ofChange Rows.codeSoundSpec).at F).post enc Tryd.prog Tryd.f6 false true false false) := by
  obtain ⟨places, hx⟩ := reads os enc
  refine returnsInHanded_of_row (C := Tryd.checked) (s := OpenSpec.ofChange Rows.codeSoundSpec) own started (by kernel_rfl) Tryd.func6
    (witness_row_at (enc := enc) (C := Tryd.checked) false (laidWorld1 os) #[.slice none 0 0, .slice none 0 0, .agg #[.int .u32 0, .int .u32 0, .int .u32 0, .int .u32 0, .int .u32 0, .int .u32 0, .int .u32 0, .int .u32 0, .int .u32 0, .int .u32 0, .int .u32 0, .int .u32 0, .int .u32 0, .int .u32 0, .int .u32 0, .int .u32 0, .int .u32 0, .int .u32 0], .agg #[.int .u32 0, .int .u32 0, .int .u64 0, .int .u64 0, .int .u64 0, .int .u64 0, .int .u64 0, .int .u64 0, .int .u64 0]] rfl (by kernel_rfl) (by kernel_rfl) (by kernel_rfl)
      (OpenSpec.preRow_of_cond 8 hx (by kernel_rfl) (fun k hk => by cases hk) (by kernel_rfl) (laid_met os))) ?_
  intro W base args ds gs before hval hW _ _ _ hL _ _
  exact contract H enc W base args ds gs before hval hW hL

theorem said : Rows.CodeSoundSaid :=
  OpenClaim.holds_of_cond 6 Tryd.f6 rfl rfl rfl rfl rfl rfl rfl ⟨rfl, rfl, rfl, rfl, rfl⟩ rfl rfl rfl rfl rfl (by kernel_rfl) Tryd.func6 (by kernel_rfl)
    (of_decide_eq_true (by kernel_rfl)) (by unfold Func.isWrapper; first | (rw [if_pos (by decide +kernel)]; kernel_rfl) | (rw [if_neg (by decide +kernel)]; exact ⟨rfl, rfl⟩))
    (fun os started H enc _ F => by rw [OpenClaim.pre_eq_preRow]; exact lifted os started H enc F)

/-- No parameter wants a stand-in; the program's own looks are off. -/
theorem plain (f : FuncId) (fn : Func) (hf : Tryd.pinned.checked.prog.funcNamed "hurdle/hurdlelaw12.CodeSound" = some f) (hfn : Tryd.pinned.checked.prog.funcs[f]? = some fn) :
    false = Tryd.pinned.checked.prog.looks [] ∧ ∀ (j : Nat) t, fn.params[j]? = some t → Tryd.pinned.checked.prog.wantsStandIn t = false := by
  obtain rfl : f = 6 := Option.some.inj ((show Tryd.prog.funcNamed "hurdle/hurdlelaw12.CodeSound" = some 6 by kernel_rfl).symm.trans hf) |>.symm
  obtain rfl : fn = Tryd.f6 := (Option.some.inj (Tryd.func6.symm.trans hfn)).symm
  refine ⟨by kernel_rfl, fun j t ht => ?_⟩
  have hm := Array.mem_of_getElem? ht
  rw [Tryd.params6] at hm
  have all : ∀ t ∈ (#[22, 23, 45, 49] : Array TypeId).toList, Tryd.prog.wantsStandIn t = false := of_decide_eq_true (by kernel_rfl)
  exact all t (Array.mem_toList_iff.2 hm)

/-- The tied card. -/
theorem card : Rows.CodeSoundCardSaid :=
  Claim7.holds_tied_plain_at .later [] _ _ _ _ said (fun _ h => by cases h) (by kernel_rfl) (fun _ h => by cases h) codeSound_row_tie rfl ⟨rfl, rfl⟩ (by kernel_rfl) rfl plain (by kernel_rfl)
end Go.Proofs.YtmbgcfikpndamaaDoor.codeSound
