/-
  The document's Parse of a condition (package hurdleref08).
-/
import Derived.Test.YtlhpdjafhjfcoaaDoorQRPrint
namespace Go.Proofs.YtlhpdjafhjfcoaaDoor
open Go.ChangeShapes Go.WideShapes Go.ChangeAt Go.RowKit
set_option maxRecDepth 20000

/-- What a text's pieces say of a condition that has it. -/
def SplitQ (s : ByteArray) (m v : Nat) (K : ByteArray) : Prop := ∀ x : Cd, x.ok → x.right = true → s = textT x → m = x.mask ∧ v = x.value ∧ K = wordT x.cmp
def at1 (s : ByteArray) : Nat := nextP s.data.toList 0
def at2 (s : ByteArray) : Nat := nextP s.data.toList (at1 s)
def at3 (s : ByteArray) : Nat := nextP s.data.toList (at2 s)
theorem at1_le (s : ByteArray) : at1 s ≤ s.size + 1 := nextP_le s 0 (by omega)
theorem at2_le (s : ByteArray) : at2 s ≤ s.size + 1 := nextP_le s _ (at1_le s)
theorem at3_le (s : ByteArray) : at3 s ≤ s.size + 1 := nextP_le s _ (at2_le s)
theorem splitQ_of {s : ByteArray} {m v : Nat} (hm : Reads (pieceT s (at1 s)) m) (hv : Reads (pieceT s (at3 s)) v) : SplitQ s m v (pieceT s (at2 s)) := by
  intro x hx hr e
  subst e
  obtain ⟨p0, p1, p2, p3, p4, p5⟩ := pieces hr
  have e1 : at1 (textT x) = 3 := p0
  have e2 : at2 (textT x) = 4 + (numT x.mask).length := by unfold at2; rw [e1]; exact p2
  have e3 : at3 (textT x) = 7 + (numT x.mask).length := by unfold at3; rw [e2]; exact p4
  rw [e1] at hm
  rw [e3] at hv
  rw [e2]
  have t1 : pieceT (textT x) 3 = Wd.txt x.mask := by
    show (⟨(pieceL (textQ x) 3).toArray⟩ : ByteArray) = _
    rw [p1]
    rfl
  have t3 : pieceT (textT x) (7 + (numT x.mask).length) = Wd.txt x.value := by
    show (⟨(pieceL (textQ x) _).toArray⟩ : ByteArray) = _
    rw [p5]
    rfl
  refine ⟨hm.2 _ hx.1 t1, hv.2 _ hx.2 t3, ?_⟩
  show (⟨(pieceL (textQ x) _).toArray⟩ : ByteArray) = _
  rw [p3]
  rfl
/-- No condition with this argument and comparison has the text. -/
def NotQ (s : ByteArray) (a k : Nat) : Prop := ∀ x : Cd, x.ok → x.right = true → x.arg = a → x.cmp = k → s ≠ textT x
theorem notQ_word {s : ByteArray} {m v : Nat} {K : ByteArray} (h : SplitQ s m v K) {a k : Nat} (hk : K ≠ wordT k) : NotQ s a k := by
  intro x hx hr _ he e
  rw [← he] at hk
  exact hk (h x hx hr e).2.2
theorem notQ_text {s : ByteArray} {m v : Nat} {K : ByteArray} (h : SplitQ s m v K) {a k : Nat} (ht : textT ⟨a, k, m, v⟩ ≠ s) : NotQ s a k := by
  intro x hx hr ha he e
  obtain ⟨hm, hv, _⟩ := h x hx hr e
  refine ht ?_
  rw [e]
  congr 1
  obtain ⟨_, _, _, _⟩ := x
  simp only at ha he hm hv
  rw [ha, he, hm, hv]
def QParseEnd (s : ByteArray) (e : Ending) : Prop :=
  (∃ c : Cd, c.ok ∧ c.right = true ∧ s = textT c ∧ e = .returned (.tuple #[c.val, .bool true])) ∨ ((∀ c : Cd, c.ok → c.right = true → s ≠ textT c) ∧ e = .returned (.tuple #[zeroCd.val, .bool false]))
theorem qparse_none {s : ByteArray} (h : ∀ a k, a < 6 → k < 6 → NotQ s a k) : QParseEnd s (.returned (.tuple #[zeroCd.val, .bool false])) := by
  refine .inr ⟨fun c hc hr e => ?_, rfl⟩
  obtain ⟨a0, a5, k0, k5⟩ := (c.right_iff).1 hr
  exact h c.arg.toNat c.cmp.toNat (by omega) (by omega) c hc hr (by omega) (by omega) e
theorem cd_right {a k m v : Nat} (ha : a < 6) (hk : k < 6) : (⟨a, k, m, v⟩ : Cd).right = true := by
  rw [Cd.right_iff]
  simp only
  omega
set_option maxHeartbeats 8000000 in
theorem rparse8_any (s : ByteArray) (w : World) (hs : s.size ≤ 4611686018427387904) :
    Calls Tryd.prog 16 #[.string s] w fun e w' => QParseEnd s e ∧ Below w.heap.size w w' := by
  have h1le := at1_le s
  have h2le := at2_le s
  have h3le := at3_le s
  have HR0 := Lib.hid (heap_alloc_new w (cdB zeroCd))
  have HB0 := Lib.hid (ba (cdB zeroCd) (Below.refl w.heap.size w))
  have hz : (#[.int .i64 0, .int .i64 0, .int .u64 0, .int .u64 0] : Array Value) = #[.int .i64 zeroCd.arg, .int .i64 zeroCd.cmp, .int .u64 (zeroCd.mask : Nat), .int .u64 (zeroCd.value : Nat)] := rfl
  obtain ⟨W, hW⟩ : ∃ W, W = w.alloc (cdB zeroCd) := ⟨_, rfl⟩
  rw [← hW] at HR0 HB0
  clear hz
  go_enter Tryd.func16, Tryd.ntmps16
  go_upto_region 1 with fail
  change Code.wp _ _ _ _ (w.alloc (cdB zeroCd))
  rw [← hW]
  clear hW
  go_wp2_with fail
  refine (rpart_any s 0 _ hs (by omega)).mono ?_
  rintro e w1 ⟨rfl, hb1⟩
  rw [show nextP s.data.toList 0 = at1 s from rfl]
  have HB1 := Lib.hid (below2 HB0.out hb1)
  have HR1 := Lib.hid (kb hb1 HR0.out)
  obtain ⟨p1, hp1⟩ : ∃ p, p = at1 s := ⟨_, rfl⟩
  obtain ⟨p2, hp2⟩ : ∃ p, p = at2 s := ⟨_, rfl⟩
  obtain ⟨p3, hp3⟩ : ∃ p, p = at3 s := ⟨_, rfl⟩
  rw [← hp1] at h1le ⊢
  rw [← hp2] at h2le
  rw [← hp3] at h3le
  have HP1 := Lib.hid hp1
  have HP2 := Lib.hid hp2
  have HP3 := Lib.hid hp3
  have HN2 : Hid (nextP s.data.toList p1 = p2) := Lib.hid (by rw [hp1, hp2]; rfl)
  have HN3 : Hid (nextP s.data.toList p2 = p3) := Lib.hid (by rw [hp2, hp3]; rfl)
  clear hb1 hp1 hp2 hp3 HR0
  go_wp2_with fail
  refine (rpart_any s p1 _ hs h1le).mono ?_
  rintro e w2 ⟨rfl, hb2⟩
  rw [HN2.out]
  have HB2 := Lib.hid (below2 HB1.out hb2)
  have HR2 := Lib.hid (kb hb2 HR1.out)
  clear hb2 HR1
  go_wp2_with fail
  refine (rpart_any s p2 _ hs h2le).mono ?_
  rintro e w3 ⟨rfl, hb3⟩
  rw [HN3.out]
  have HB3 := Lib.hid (below2 HB2.out hb3)
  have HR3 := Lib.hid (kb hb3 HR2.out)
  clear hb3 HR2
  go_wp2_with fail
  refine (rpart_any s p3 _ hs h3le).mono ?_
  rintro e w4 ⟨rfl, hb4⟩
  have HB4 := Lib.hid (below2 HB3.out hb4)
  have HR4 := Lib.hid (kb hb4 HR3.out)
  clear hb4 HR3
  have hz1 := Nat.le_trans (pieceT_size s p1) hs
  have hz3 := Nat.le_trans (pieceT_size s p3) hs
  obtain ⟨S1, hS1⟩ : ∃ S, S = pieceT s p1 := ⟨_, rfl⟩
  obtain ⟨K, hK⟩ : ∃ S, S = pieceT s p2 := ⟨_, rfl⟩
  obtain ⟨S3, hS3⟩ : ∃ S, S = pieceT s p3 := ⟨_, rfl⟩
  rw [← hS1] at hz1 ⊢
  rw [← hK]
  rw [← hS3] at hz3 ⊢
  have HSP : Hid (∀ m v, Reads S1 m → Reads S3 v → SplitQ s m v K) := Lib.hid (fun m v h1 h3 => by
    rw [hS1, HP1.out] at h1
    rw [hS3, HP3.out] at h3
    rw [hK, HP2.out]
    exact splitQ_of h1 h3)
  clear hS1 hK hS3 HP1 HP2 HP3 HN2 HN3 h1le h2le h3le
  go_wp2_with fail
  refine (refParse_any S1 _ hz1).mono ?_
  rintro e w5 ⟨m, bm, HM, rfl, hb5⟩
  have HB5 := Lib.hid (below2 HB4.out hb5)
  have HR5 := Lib.hid (kb hb5 HR4.out)
  clear hb5 HR4
  go_wp2_with fail
  refine (refParse_any S3 _ hz3).mono ?_
  rintro e w6 ⟨v, bv, HV, rfl, hb6⟩
  have HB6 := Lib.hid (below2 HB5.out hb6)
  have HR6 := Lib.hid (kb hb6 HR5.out)
  have HSQ := Lib.hid (HSP.out m v HM.out HV.out)
  have hm64 : (m : Int) ≤ 18446744073709551615 := by have := HM.out.1; omega
  have hv64 : (v : Int) ≤ 18446744073709551615 := by have := HV.out.1; omega
  clear hb6 HR5 HSP hz1 hz3
  go_wp2_with fail
  go_loopw [16] (fun i wr => ∃ a : Nat, a ≤ 6 ∧ i = .int .i64 a ∧ Below w.heap.size w wr ∧ wr.heap[w.heap.size]? = some (cdB zeroCd) ∧ ∀ a' k', a' < a → k' < 6 → NotQ s a' k') (fun i _ => 6 - (intOf i).toNat)
  case atStart => exact ⟨0, by omega, rfl, HB6.out, HR6.out, fun a' k' h => by omega⟩
  case round =>
    clear HB6 HR6
    obtain ⟨a, ha, rfl, hbw, hrr, hno⟩ := hrel
    have HB := Lib.hid hbw
    have HR := Lib.hid hrr
    have HN := Lib.hid hno
    clear hbw hrr hno
    by_cases hlt : a < 6
    · have hda : decide ((a : Int) < 6) = true := by simp; omega
      go_wp2_with fail
      go_loopw [17] (fun i wv => ∃ k : Nat, k ≤ 6 ∧ i = .int .i64 k ∧ Below w.heap.size w wv ∧ wv.heap[w.heap.size]? = some (cdB zeroCd) ∧ ∀ k', k' < k → NotQ s a k') (fun i _ => 6 - (intOf i).toNat)
      case atStart => exact ⟨0, by omega, rfl, HB.out, HR.out, fun k' h => by omega⟩
      case round =>
        clear HB HR
        obtain ⟨k, hk, rfl, hbw, hrr, hno⟩ := hrel
        have HB := Lib.hid hbw
        have HR := Lib.hid hrr
        have HNK := Lib.hid hno
        clear hbw hrr hno
        by_cases hkl : k < 6
        · have hdk : decide ((k : Int) < 6) = true := by simp; omega
          have HX0 := Lib.hid (heap_alloc_new wr (cdB ⟨a, k, m, v⟩))
          have HBX := Lib.hid (ba (cdB ⟨a, k, m, v⟩) HB.out)
          have HRX := Lib.hid (ka (cdB ⟨a, k, m, v⟩) HR.out)
          go_wp2_with fail
          obtain ⟨WX, hWX⟩ : ∃ q, q = wr.alloc (cdB ⟨a, k, m, v⟩) := ⟨_, rfl⟩
          rw [← hWX] at HX0 HBX HRX ⊢
          clear hWX
          refine (rwords_any _).mono ?_
          rintro e w7 ⟨rfl, rfl⟩
          have HX7 := Lib.hid (ka (.cells wordsC 9) HX0.out)
          have HR7 := Lib.hid (ka (.cells wordsC 9) HRX.out)
          have HB7 := Lib.hid (ba (.cells wordsC 9) HBX.out)
          have d0 := (cell_in (heap_alloc_new WX (.cells wordsC 9)) k).trans (wordsC_at hkl)
          obtain ⟨W7, hW7⟩ : ∃ q, q = WX.alloc (.cells wordsC 9) := ⟨_, rfl⟩
          rw [← hW7] at HX7 HR7 HB7 d0 ⊢
          obtain ⟨c0, c1, c2, c3⟩ := cdX HX7.out
          clear hW7 HX0 HRX HBX
          have k0 : (0 : Int) ≤ (k : Int) := by omega
          have k1 : (k : Int) < 6 := by omega
          cases hq : (K.toList == (wordT (k : Int)).toList)
          · have HNQ := Lib.hid (notQ_word HSQ.out (a := a) (k := k) (by
              intro e
              rw [e] at hq
              simp at hq))
            have HNK' : Hid (∀ k', k' < k + 1 → NotQ s a k') := Lib.hid (by
              intro k' h
              by_cases hk' : k' < k
              · exact HNK.out k' hk'
              · obtain rfl : k' = k := by omega
                exact HNQ.out)
            generalize wordT (k : Int) = KW at *
            go_wp2_with fail
            go_roundw
            case rel => exact ⟨k + 1, by omega, by go_num, HB7.out, HR7.out, HNK'.out⟩
            case measure => simp [intOf]; omega
          · have HRT := Lib.hid (cd_right (m := m) (v := v) hlt hkl)
            have HOK : Hid ((⟨a, k, m, v⟩ : Cd).ok) := Lib.hid ⟨HM.out.1, HV.out.1⟩
            generalize wordT (k : Int) = KW at *
            go_wp2_with fail
            refine (rprint8_any ⟨a, k, m, v⟩ _ HOK.out HRT.out).mono ?_
            rintro e w8 ⟨rfl, hb8⟩
            have HX8 := Lib.hid (kb hb8 HX7.out)
            have HR8 := Lib.hid (kb hb8 HR7.out)
            have HB8 := Lib.hid (below2 HB7.out (hb8.mono (Nat.le_refl _)))
            clear hb8 c0 c1 c2 c3 d0
            cases ht : ((textT ⟨a, k, m, v⟩).toList == s.toList)
            · have HNQ := Lib.hid (notQ_text HSQ.out (a := a) (k := k) (by
                intro e
                rw [e] at ht
                simp at ht))
              have HNK' : Hid (∀ k', k' < k + 1 → NotQ s a k') := Lib.hid (by
                intro k' h
                by_cases hk' : k' < k
                · exact HNK.out k' hk'
                · obtain rfl : k' = k := by omega
                  exact HNQ.out)
              generalize textT ⟨a, k, m, v⟩ = TT at *
              go_wp2_with fail
              go_roundw
              case rel => exact ⟨k + 1, by omega, by go_num, HB8.out, HR8.out, HNK'.out⟩
              case measure => simp [intOf]; omega
            · have HEQ : Hid (s = textT ⟨a, k, m, v⟩) := Lib.hid (by
                have h := eq_of_beq ht
                rw [Go.ByteArray.toList_eq, Go.ByteArray.toList_eq] at h
                apply ByteArray.ext
                apply Array.ext'
                exact h.symm)
              have HE : Hid (QParseEnd s (.returned (.tuple #[(⟨a, k, m, v⟩ : Cd).val, .bool true]))) := Lib.hid (.inl ⟨⟨a, k, m, v⟩, HOK.out, HRT.out, HEQ.out, rfl⟩)
              obtain ⟨c0, c1, c2, c3⟩ := cdX HX8.out
              have r0 := cell_in HR8.out 0
              have r1 := cell_in HR8.out 1
              have r2 := cell_in HR8.out 2
              have r3 := cell_in HR8.out 3
              have f0 := free_in HR8.out 0
              have f1 := free_in HR8.out 1
              have f2 := free_in HR8.out 2
              have f3 := free_in HR8.out 3
              clear HEQ
              generalize textT ⟨a, k, m, v⟩ = TT at *
              go_wp2_with fail
              (try simp only [Exit.inBlock, Exit.then])
              refine bodyPost_ret (v := .tuple #[.agg #[.int .i64 (a : Int), .int .i64 (k : Int), .int .u64 (m : Nat), .int .u64 (v : Nat)], .bool true]) ?_ rfl ⟨HE.out, ?_⟩
              · rw [results_cell_tmp rfl]
                go_simp
              · have hB := HB8.out
                go_grown
        · obtain rfl : k = 6 := by omega
          have HN' : Hid (∀ a' k', a' < a + 1 → k' < 6 → NotQ s a' k') := Lib.hid (by
            intro a' k' h1 h2
            by_cases ha' : a' < a
            · exact HN.out a' k' ha' h2
            · obtain rfl : a' = a := by omega
              exact HNK.out k' h2)
          go_wp2_with fail
          go_roundw
          case rel => exact ⟨a + 1, by omega, by go_num, HB.out, HR.out, HN'.out⟩
          case measure => simp [intOf]; omega
    · obtain rfl : a = 6 := by omega
      have HE := Lib.hid (qparse_none HN.out)
      have r0 := cell_in HR.out 0
      have r1 := cell_in HR.out 1
      have r2 := cell_in HR.out 2
      have r3 := cell_in HR.out 3
      have f0 := free_in HR.out 0
      have f1 := free_in HR.out 1
      have f2 := free_in HR.out 2
      have f3 := free_in HR.out 3
      go_wp2_with fail
      (try simp only [Exit.inBlock, Exit.then])
      refine bodyPost_ret (v := .tuple #[.agg #[.int .i64 0, .int .i64 0, .int .u64 0, .int .u64 0], .bool false]) ?_ rfl ⟨HE.out, ?_⟩
      · rw [results_cell_tmp rfl]
        go_simp
      · have hB := HB.out
        go_grown
end Go.Proofs.YtlhpdjafhjfcoaaDoor
