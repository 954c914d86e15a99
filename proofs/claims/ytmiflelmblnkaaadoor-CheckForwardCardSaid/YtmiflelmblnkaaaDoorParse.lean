/-
  What word.Parse answers, for any text of at most 2^62 bytes, in every world: the number whose text it is, and OK; or 0 and ErrForm, if it is no number's text. Nothing that was there is changed.
-/
import Derived.Test.YtmiflelmblnkaaaDoorBase
import Derived.Test.YtmiflelmblnkaaaDoorProg
import Derived.Test.YtmiflelmblnkaaaDoorPlain
import Derived.WalkKit
import Derived.ProofKit
import Derived.Lib.Hide
namespace Go.Proofs.YtmiflelmblnkaaaDoor
open Go.ChangeShapes Go.WideShapes Go.ChangeAt Go.RowKit

theorem ret2u {v v' : Int} {c c' : Bool} (h : v = v') (hc : c = c') : Ending.returned (.tuple #[.int .u64 v, .bool c]) = .returned (.tuple #[.int .u64 v', .bool c']) := by rw [h, hc]

theorem digit_lo (r : Int) (w : World) (h0 : 48 ≤ r) (h1 : r ≤ 57) :
    Calls Tryd.prog 73 #[.int .i32 r] w fun e w' => e = .returned (.tuple #[.int .u64 (r - 48), .bool true]) ∧ w = w' := by
  go_enter Tryd.func73, Tryd.ntmps73
  go_wp2
  go_ret2
  exact ⟨rfl, rfl⟩
theorem digit_hi (r : Int) (w : World) (h0 : 97 ≤ r) (h1 : r ≤ 102) :
    Calls Tryd.prog 73 #[.int .i32 r] w fun e w' => e = .returned (.tuple #[.int .u64 (r - 97 + 10), .bool true]) ∧ w = w' := by
  have h2 : 48 ≤ r := by omega
  have h3 : decide (r ≤ 57) = false := by simp; omega
  go_enter Tryd.func73, Tryd.ntmps73
  go_wp2
  go_ret2
  exact ⟨rfl, rfl⟩
theorem digit_no (r : Int) (w : World) (h : ¬ (48 ≤ r ∧ r ≤ 57) ∧ ¬ (97 ≤ r ∧ r ≤ 102)) :
    Calls Tryd.prog 73 #[.int .i32 r] w fun e w' => e = .returned (.tuple #[.int .u64 0, .bool false]) ∧ w = w' := by
  by_cases h1 : r < 48
  · have h2 : decide (48 ≤ r) = false := by simp; omega
    have h3 : decide (97 ≤ r) = false := by simp; omega
    clear h
    go_enter Tryd.func73, Tryd.ntmps73
    go_wp2
    go_ret2
    exact ⟨rfl, rfl⟩
  · by_cases h4 : r < 97
    · have h2 : decide (48 ≤ r) = true := by simp; omega
      have h5 : decide (r ≤ 57) = false := by simp; omega
      have h3 : decide (97 ≤ r) = false := by simp; omega
      clear h
      go_enter Tryd.func73, Tryd.ntmps73
      go_wp2
      go_ret2
      exact ⟨rfl, rfl⟩
    · have h2 : decide (48 ≤ r) = true := by simp; omega
      have h5 : decide (r ≤ 57) = false := by simp; omega
      have h3 : decide (97 ≤ r) = true := by simp; omega
      have h6 : decide (r ≤ 102) = false := by simp; omega
      clear h
      go_enter Tryd.func73, Tryd.ntmps73
      go_wp2
      go_ret2
      exact ⟨rfl, rfl⟩
theorem digit_yes (d : Nat) (r : Int) (w : World) (hd : d < 16) (hr : r = ((Wd.hexB d).toNat : Int)) :
    Calls Tryd.prog 73 #[.int .i32 r] w fun e w' => e = .returned (.tuple #[.int .u64 d, .bool true]) ∧ w = w' := by
  by_cases h : d < 10
  · rw [Wd.hexB_lo d h] at hr
    refine (digit_lo r w (by omega) (by omega)).mono ?_
    rintro e w' ⟨rfl, rfl⟩
    exact ⟨ret2u (by omega) rfl, rfl⟩
  · rw [Wd.hexB_hi d (by omega) hd] at hr
    refine (digit_hi r w (by omega) (by omega)).mono ?_
    rintro e w' ⟨rfl, rfl⟩
    exact ⟨ret2u (by omega) rfl, rfl⟩

/-- What comes of reading a text. -/
def ParseEnd (s : ByteArray) (e : Ending) : Prop :=
  (∃ n : Nat, n < 18446744073709551616 ∧ s = Wd.txt n ∧ e = .returned (.tuple #[.int .u64 n, .int .i64 0])) ∨
  ((∀ n : Nat, n < 18446744073709551616 → s ≠ Wd.txt n) ∧ e = .returned (.tuple #[.int .u64 0, .int .i64 2]))

theorem not_txt {s : ByteArray} (h : ∀ m : Nat, m < 18446744073709551616 → s.data.toList = 48 :: 120 :: Wd.hex m → False) : ParseEnd s (.returned (.tuple #[.int .u64 0, .int .i64 2])) :=
  .inr ⟨fun m hm e => h m hm (by rw [e]; rfl), rfl⟩

theorem sign0 : wrap32 (((⟨#[48, 120]⟩ : ByteArray)[0]'(by decide)).toNat : Int) = 48 := IntWalk.wrap32_in 48 (by omega)
theorem sign1 : wrap32 (((⟨#[48, 120]⟩ : ByteArray)[1]'(by decide)).toNat : Int) = 120 := IntWalk.wrap32_in 120 (by omega)

/-- Each byte of a number's text is below 128. -/
theorem next_ascii {l : List UInt8} {p n m : Nat} (h : Wd.Read l p n) (e : l = 48 :: 120 :: Wd.hex m) (hm : m < 18446744073709551616) (hl : p < l.length) : ∃ c : UInt8, l[p] = c ∧ c.toNat < 128 := by
  subst e
  obtain ⟨h1, h2, _⟩ := h.next hm hl
  refine ⟨_, rfl, ?_⟩
  by_cases hp : p < 2
  · have := h1 hp
    rcases p with _ | _ | p
    · exact (by decide : (48 : UInt8).toNat < 128)
    · exact (by decide : (120 : UInt8).toNat < 128)
    · omega
  · obtain ⟨d, hd, hc⟩ := h2 (by omega)
    rw [hc]
    by_cases h10 : d < 10
    · rw [Wd.hexB_lo d h10]; omega
    · rw [Wd.hexB_hi d (by omega) hd]; omega

set_option maxHeartbeats 1000000 in
theorem parse_any (s : ByteArray) (w : World) (hs : s.size ≤ 4611686018427387904) :
    Calls Tryd.prog 67 #[.string s] w fun e w' => ParseEnd s e ∧ Below w.heap.size w w' := by
  by_cases h2 : s.size ≤ 2
  · go_enter Tryd.func67, Tryd.ntmps67
    go_wp2
    go_ret2
    refine ⟨not_txt fun m _ e => ?_, Below.refl _ _⟩
    have := congrArg List.length e
    have hp := List.length_pos_iff.2 (Wd.hex_ne m)
    simp at this
    omega
  · have hd2 : decide (s.size ≤ 2) = false := by simpa using h2
    go_enter Tryd.func67, Tryd.ntmps67
    go_wp2
    go_loopw [4] (fun n w' => ∃ (p x : Nat), p ≤ s.size ∧ n = .int .u64 x ∧ w' = w.iter s p ∧ Wd.Read s.data.toList p x) (fun _ w' => s.size - w'.iterPos w.heap.size)
    case atStart => exact ⟨0, 0, by omega, rfl, rfl, Wd.Read.start _⟩
    case round =>
      obtain ⟨p, x, hp, rfl, rfl, hR⟩ := hrel
      have HR := Lib.hid hR
      have hx := hR.1
      have hBw : ∀ q, Below w.heap.size w (w.iter s q) := fun q => (Below.refl _ _).alloc (Nat.le_refl _) _
      have HBw := Lib.hid hBw
      clear hR hBw
      have w48 := sign0
      have w120 := sign1
      by_cases hlt : p < s.size
      · have hlt' : p < s.data.toList.length := hlt
        have hget : s[p] = s.data.toList[p] := rfl
        have HG := Lib.hid hget
        clear hget
        by_cases ha : s[p].toNat < 128
        · have hnx := fun ty => run_next_ascii (P := Tryd.prog) w s p ty hlt ha
          by_cases hp2 : p < 2
          · by_cases hp0 : p = 0
            · obtain rfl := hp0
              by_cases hc : s[0].toNat = 48
              · have hne : ((s[0].toNat : Int) != 48) = false := by simp; omega
                have Hc := Lib.hid hc
                clear hc
                go_wp2
                obtain ⟨h0, hR1⟩ := HR.out.sign hp2 hlt' (by rw [← HG.out]; simp; exact (UInt8.toNat_inj.1 Hc.out).symm)
                refine ⟨⟨1, x, by omega, rfl, rfl, h0 ▸ hR1⟩, ?_⟩
                simp
                omega
              · have hne : ((s[0].toNat : Int) != 48) = true := by simp; omega
                have hfin : ParseEnd s (.returned (.tuple #[.int .u64 0, .int .i64 2])) := not_txt fun m hm e => by
                  apply hc
                  rw [HG.out]
                  simp only [e]
                  rfl
                have HF := Lib.hid hfin
                clear hfin hc
                go_wp2
                go_ret2
                exact ⟨HF.out, HBw.out _⟩
            · obtain rfl : p = 1 := by omega
              by_cases hc : s[1].toNat = 120
              · have hne : ((s[1].toNat : Int) != 120) = false := by simp; omega
                have Hc := Lib.hid hc
                clear hc
                go_wp2
                obtain ⟨h0, hR1⟩ := HR.out.sign hp2 hlt' (by rw [← HG.out]; simp; exact (UInt8.toNat_inj.1 Hc.out).symm)
                refine ⟨⟨2, x, by omega, rfl, rfl, h0 ▸ hR1⟩, ?_⟩
                simp
                omega
              · have hne : ((s[1].toNat : Int) != 120) = true := by simp; omega
                have hfin : ParseEnd s (.returned (.tuple #[.int .u64 0, .int .i64 2])) := not_txt fun m hm e => by
                  apply hc
                  rw [HG.out]
                  simp only [e]
                  rfl
                have HF := Lib.hid hfin
                clear hfin hc
                go_wp2
                go_ret2
                exact ⟨HF.out, HBw.out _⟩
          · by_cases hdg : ∃ d, d < 16 ∧ s[p] = Wd.hexB d
            · obtain ⟨d, hd, hc⟩ := hdg
              have hci : (s[p].toNat : Int) = ((Wd.hexB d).toNat : Int) := by rw [hc]
              by_cases hok : x ≤ 1152921504606846975 ∧ (2 < p → x ≠ 0)
              · obtain ⟨hx60, hz⟩ := hok
                have hR1 := HR.out.digit (by omega) hlt' hd (by rw [← HG.out, hc]) hx60 hz
                have hor := Wd.or16 x d hx60 hd
                have HR1 := Lib.hid hR1
                have Hc := Lib.hid hci
                clear hR1 hc hci HG HR
                by_cases hp3 : 2 < p
                · have hzb : ((x : Int) == 0) = false := by have := hz hp3; simp; omega
                  clear hz
                  go_wp2_with (go_at_call 73; refine (digit_yes d _ _ hd Hc.out).mono ?_; rintro e w' ⟨rfl, rfl⟩)
                  refine ⟨⟨p + 1, x * 16 + d, by omega, rfl, rfl, HR1.out⟩, ?_⟩
                  simp
                  omega
                · obtain rfl : p = 2 := by omega
                  clear hz
                  go_wp2_with (go_at_call 73; refine (digit_yes d _ _ hd Hc.out).mono ?_; rintro e w' ⟨rfl, rfl⟩)
                  refine ⟨⟨2 + 1, x * 16 + d, by omega, rfl, rfl, HR1.out⟩, ?_⟩
                  simp
                  omega
              · have hfin : ParseEnd s (.returned (.tuple #[.int .u64 0, .int .i64 2])) := not_txt fun m hm e => by
                  have hl := hlt'
                  have h1 := HR.out
                  simp only [e] at h1 hl
                  have h3 := h1.next hm hl
                  exact hok ⟨h3.2.2.2, h3.2.2.1⟩
                have HF := Lib.hid hfin
                have Hc := Lib.hid hci
                clear hfin hc hci HG
                by_cases hx60 : x ≤ 1152921504606846975
                · have h23 : 2 < p ∧ x = 0 := by
                    by_cases a : 2 < p
                    · refine ⟨a, ?_⟩
                      by_cases b : x = 0
                      · exact b
                      · exact absurd ⟨hx60, fun _ => b⟩ hok
                    · exact absurd ⟨hx60, fun b => absurd b a⟩ hok
                  obtain ⟨h23, rfl⟩ := h23
                  clear hok
                  go_wp2_with (go_at_call 73; refine (digit_yes d _ _ hd Hc.out).mono ?_; rintro e w' ⟨rfl, rfl⟩)
                  go_ret2
                  exact ⟨HF.out, HBw.out _⟩
                · clear hok
                  go_wp2_with (go_at_call 73; refine (digit_yes d _ _ hd Hc.out).mono ?_; rintro e w' ⟨rfl, rfl⟩)
                  go_ret2
                  exact ⟨HF.out, HBw.out _⟩
            · have hfin : ParseEnd s (.returned (.tuple #[.int .u64 0, .int .i64 2])) := not_txt fun m hm e => by
                have hl := hlt'
                have h1 := HR.out
                simp only [e] at h1 hl
                obtain ⟨d, hd, hc⟩ := (h1.next hm hl).2.1 (by omega)
                refine hdg ⟨d, hd, ?_⟩
                rw [HG.out]
                simp only [e]
                exact hc
              have HF := Lib.hid hfin
              have hno : ¬ (48 ≤ (s[p].toNat : Int) ∧ (s[p].toNat : Int) ≤ 57) ∧ ¬ (97 ≤ (s[p].toNat : Int) ∧ (s[p].toNat : Int) ≤ 102) := by
                refine ⟨fun h => hdg ⟨s[p].toNat - 48, by omega, ?_⟩, fun h => hdg ⟨s[p].toNat - 87, by omega, ?_⟩⟩
                · apply UInt8.toNat_inj.1; rw [Wd.hexB_lo _ (by omega)]; omega
                · apply UInt8.toNat_inj.1; rw [Wd.hexB_hi _ (by omega) (by omega)]; omega
              have Hno := Lib.hid hno
              clear hfin hdg hno HG
              go_wp2_with (go_at_call 73; refine (digit_no _ _ Hno.out).mono ?_; rintro e w' ⟨rfl, rfl⟩)
              go_ret2
              exact ⟨HF.out, HBw.out _⟩
        · have hnx := fun ty => run_next_any (P := Tryd.prog) w s p ty hlt
          have hr0 := (decode_high s p hlt (by omega)).1
          have hr1 := decode_le s p
          have hfin : ParseEnd s (.returned (.tuple #[.int .u64 0, .int .i64 2])) := not_txt fun m hm e => by
            obtain ⟨c, hc, hd⟩ := next_ascii HR.out e hm hlt'
            rw [HG.out, hc] at ha
            exact ha hd
          have HF := Lib.hid hfin
          clear hfin
          by_cases hp2 : p < 2
          · by_cases hp0 : p = 0
            · obtain rfl := hp0
              have hne : (((Utf8.decode s 0).1 : Int) != 48) = true := by simp; omega
              go_wp2
              go_ret2
              exact ⟨HF.out, HBw.out _⟩
            · obtain rfl : p = 1 := by omega
              have hne : (((Utf8.decode s 1).1 : Int) != 120) = true := by simp; omega
              go_wp2
              go_ret2
              exact ⟨HF.out, HBw.out _⟩
          · go_wp2_with (go_at_call 73; refine (digit_no _ _ (by omega)).mono ?_; rintro e w' ⟨rfl, rfl⟩)
            go_ret2
            exact ⟨HF.out, HBw.out _⟩
      · have hnx := fun ty => run_next_end (P := Tryd.prog) w s p ty hlt
        go_wp2
        go_ret2
        refine ⟨.inl ⟨x, hx, ?_, rfl⟩, HBw.out _⟩
        apply ByteArray.ext
        apply Array.ext'
        exact HR.out.done (by show s.size ≤ p; omega) (by show 3 ≤ s.size; omega)
end Go.Proofs.YtmiflelmblnkaaaDoor
