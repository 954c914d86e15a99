/-
  The document's own texts of numbers (package hurdleref01): Text and Parse answer as word's do.
-/
import Derived.Test.YtmijnhcbbklmaaaDoorTxt
namespace Go.Proofs.YtmijnhcbbklmaaaDoor
open Go.ChangeShapes Go.WideShapes Go.ChangeAt Go.RowKit
set_option maxRecDepth 20000

/-- A row of one new byte, as a text. -/
theorem conv1 (W : World) (g : Nat) (hg : g = W.heap.size) (v : Int) (b : UInt8) (hv : v = (b.toNat : Int)) :
    (convert 63 9 (.slice (some ⟨g, 0, none⟩) 1 1)).run Tryd.prog (W.alloc (.cells #[.int .u8 v] 5)) = .ok (.string ⟨#[b]⟩) (W.alloc (.cells #[.int .u8 v] 5)) := by
  subst hg
  subst hv
  exact run_convert_bytes_back (P := Tryd.prog) (W.alloc (.cells #[.int .u8 (b.toNat : Int)] 5)) 63 9 5 ⟨W.heap.size, 0, none⟩ 1 [b] Tryd.underlying63 Tryd.underlying5 Tryd.underlying9 (fun j hj => by
    obtain rfl : j = 0 := by simpa using hj
    rw [show (⟨W.heap.size, 0, none⟩ : Addr).add 0 = ⟨W.heap.size, 0, none⟩ by simp [Addr.add], World.cell?_alloc_new]
    rfl)

theorem ofNat_toNat (k : Nat) (h : k < 256) : ((UInt8.ofNat k).toNat : Int) = (k : Int) := by
  simp
  omega

set_option maxHeartbeats 2000000 in
theorem digits_any (n : Nat) : ∀ (_ : n < 18446744073709551616) (w : World),
    Calls Tryd.prog 36 #[.int .u64 n] w fun e w' => e = .returned (.string ⟨(Wd.hex n).toArray⟩) ∧ Below w.heap.size w w' := by
  induction n using Nat.strongRecOn with
  | ind n ih =>
    intro hn w
    have IH := Lib.hid ih
    clear ih
    have b1 := (Below.refl w.heap.size w).alloc (Nat.le_refl _) (Obj.cells #[.int .u8 (48 + (n : Int) % 16)] 5)
    have b2 := b1.alloc b1.size (Obj.cells #[.int .u8 (87 + (n : Int) % 16)] 5)
    by_cases hd : n % 16 ≤ 9
    · have c1 := conv1 w w.heap.size rfl (48 + (n : Int) % 16) (Wd.hexB (n % 16)) (by rw [Wd.hexB_lo _ (by omega)]; omega)
      clear b2
      by_cases h16 : n < 16
      · have hx := Wd.hex_lt h16
        have hmod : n % 16 = n := Nat.mod_eq_of_lt h16
        have hx2 : Wd.hex n = [Wd.hexB (n % 16)] := by rw [hx, hmod]
        have HX := Lib.hid hx2
        clear hmod hx hx2
        go_enter Tryd.func36, Tryd.ntmps36
        go_wp2_with fail
        go_ret
        refine ⟨?_, b1⟩
        rw [HX.out]
        rfl
      · have hx := Lib.hid (Wd.hex_ge (show 16 ≤ n by omega))
        have hl := Wd.hex_len16 (n / 16) (by omega)
        have hcall := IH.out (n / 16) (by omega) (by omega)
        have HC := Lib.hid hcall
        clear hcall IH
        go_enter Tryd.func36, Tryd.ntmps36
        go_wp2_with fail
        refine (HC.out _).mono ?_
        rintro e w' ⟨rfl, hb⟩
        go_wp2_with fail
        go_ret
        refine ⟨?_, b1.trans (hb.mono b1.size)⟩
        rw [hx.out]
        exact congrArg (fun s => Ending.returned (.string s)) (Wd.joined _ _)
    · obtain ⟨z, hz⟩ : ∃ z : UInt8, 48 + (n : Int) % 16 = (z.toNat : Int) := ⟨UInt8.ofNat (48 + n % 16), by rw [ofNat_toNat _ (by omega)]; omega⟩
      have c1 := conv1 w w.heap.size rfl (48 + (n : Int) % 16) z hz
      clear hz
      have c2 := conv1 (w.alloc (.cells #[.int .u8 (48 + (n : Int) % 16)] 5)) (w.heap.size + 1) (by simp) (87 + (n : Int) % 16) (Wd.hexB (n % 16)) (by rw [Wd.hexB_hi _ (by omega) (by omega)]; omega)
      by_cases h16 : n < 16
      · have hx := Wd.hex_lt h16
        have hmod : n % 16 = n := Nat.mod_eq_of_lt h16
        have hx2 : Wd.hex n = [Wd.hexB (n % 16)] := by rw [hx, hmod]
        have HX := Lib.hid hx2
        clear hmod hx hx2
        go_enter Tryd.func36, Tryd.ntmps36
        go_wp2_with fail
        go_ret
        refine ⟨?_, b2⟩
        rw [HX.out]
        rfl
      · have hx := Lib.hid (Wd.hex_ge (show 16 ≤ n by omega))
        have hl := Wd.hex_len16 (n / 16) (by omega)
        have hcall := IH.out (n / 16) (by omega) (by omega)
        have HC := Lib.hid hcall
        clear hcall IH
        go_enter Tryd.func36, Tryd.ntmps36
        go_wp2_with fail
        refine (HC.out _).mono ?_
        rintro e w' ⟨rfl, hb⟩
        go_wp2_with fail
        go_ret
        refine ⟨?_, b2.trans (hb.mono b2.size)⟩
        rw [hx.out]
        exact congrArg (fun s => Ending.returned (.string s)) (Wd.joined _ _)

theorem refText_any (n : Nat) (hn : n < 18446744073709551616) (w : World) :
    Calls Tryd.prog 24 #[.int .u64 n] w fun e w' => e = .returned (.string (Wd.txt n)) ∧ Below w.heap.size w w' := by
  have hl := Wd.hex_len16 n hn
  go_enter Tryd.func24, Tryd.ntmps24
  go_wp2_with fail
  refine (digits_any n hn _).mono ?_
  rintro e w' ⟨rfl, hb⟩
  go_wp2_with fail
  go_ret
  exact ⟨congrArg (fun s => Ending.returned (.string s)) (Wd.joined [48, 120] (Wd.hex n)), hb⟩

theorem txt_size (m : Nat) : (Wd.txt m).size = (Wd.hex m).length + 2 := by show (48 :: 120 :: Wd.hex m).length = _; simp
theorem txt_at (m k : Nat) (h : k < (Wd.txt m).size) (h2 : 2 ≤ k) : ∃ (d : Nat) (hj : k - 2 < (Wd.hex m).length), d < 16 ∧ (Wd.txt m)[k] = Wd.hexB d ∧ (Wd.hex m)[k - 2] = Wd.hexB d := by
  have hj : k - 2 < (Wd.hex m).length := by rw [txt_size] at h; omega
  obtain ⟨d, hd, hc⟩ := Wd.hex_mem m (Wd.hex m)[k - 2] (List.getElem_mem _)
  refine ⟨d, hj, hd, ?_, hc⟩
  rw [← hc]
  obtain ⟨j, rfl⟩ : ∃ j, k = j + 2 := ⟨k - 2, by omega⟩
  rfl

set_option maxHeartbeats 2000000 in
theorem refParse_yes (m : Nat) (hm : m < 18446744073709551616) (w : World) :
    Calls Tryd.prog 37 #[.string (Wd.txt m)] w fun e w' => e = .returned (.tuple #[.int .u64 m, .bool true]) ∧ Below w.heap.size w w' := by
  have hl := Wd.hex_len16 m hm
  have hsz := txt_size m
  have h3 : 3 ≤ (Wd.txt m).size := by omega
  have h18 : (Wd.txt m).size ≤ 18 := by omega
  have HZ := Lib.hid hsz
  clear hsz
  have hbq : ((Wd.txt m).toList != (Wd.txt m).toList) = false := by simp
  have AT := Lib.hid (txt_at m)
  have VT := Lib.hid (Wd.val_take m)
  have VH := Lib.hid (Wd.val_hex m)
  have VF : Hid (Wd.val ((Wd.hex m).take (Wd.hex m).length) = m) := by rw [List.take_length]; exact Wd.val_hex m
  have V0 : Hid (Wd.val ((Wd.hex m).take (2 - 2)) = 0) := rfl
  have RT := Lib.hid (refText_any m hm)
  generalize Wd.txt m = s at *
  go_enter Tryd.func37, Tryd.ntmps37
  go_wp2
  go_loop [4, 5] (fun n i => ∃ k : Nat, 2 ≤ k ∧ k ≤ s.size ∧ i = .int .i64 k ∧ n = .int .u64 (Wd.val ((Wd.hex m).take (k - 2)))) (fun _ i => s.size - (intOf i).toNat)
  case atStart => exact ⟨2, by omega, by omega, rfl, by rw [V0.out]; rfl⟩
  case round =>
    obtain ⟨k, hk2, hk, rfl, rfl⟩ := hrel
    by_cases hlt : k < s.size
    · obtain ⟨d, hj, hd, hc, hc2⟩ := AT.out k hlt hk2
      obtain ⟨hv, hvm⟩ := VT.out (k - 2) hj
      rw [hc2, Wd.dig_hexB d hd, show k - 2 + 1 = k + 1 - 2 by omega] at hv
      rw [show k - 2 + 1 = k + 1 - 2 by omega] at hvm
      generalize hx : Wd.val ((Wd.hex m).take (k - 2)) = x at *
      have HV := Lib.hid hv
      have hxb : x * 16 + d < 18446744073709551616 := by omega
      clear hv hvm hx hc2
      by_cases h10 : d < 10
      · have hcn : s[k].toNat = 48 + d := by rw [hc, Wd.hexB_lo d h10]
        have h97 : decide (97 ≤ s[k].toNat) = false := by simp; omega
        clear hc
        go_wp2
        refine ⟨⟨k + 1, by omega, by omega, by go_num, ?_⟩, by simp [intOf]; omega⟩
        rw [HV.out]
        go_num
      · have hcn : s[k].toNat = 87 + d := by rw [hc, Wd.hexB_hi d (by omega) hd]
        clear hc
        go_wp2
        refine ⟨⟨k + 1, by omega, by omega, by go_num, ?_⟩, by simp [intOf]; omega⟩
        rw [HV.out]
        go_num
    · obtain rfl : k = s.size := by omega
      have hfin : Wd.val ((Wd.hex m).take (s.size - 2)) = m := by
        have h := VF.out
        rwa [show (Wd.hex m).length = s.size - 2 by rw [HZ.out]; omega] at h
      rw [hfin]
      clear hfin
      go_wp2_with fail
      refine (RT.out _).mono ?_
      rintro e w' ⟨rfl, hb⟩
      go_wp2_with fail
      go_ret2
      exact ⟨rfl, hb⟩

theorem u64_bd (n : Int) : 0 ≤ IntKind.u64.wrap n ∧ IntKind.u64.wrap n ≤ 18446744073709551615 := by rw [IntKind.wrap_u64]; omega

set_option maxHeartbeats 2000000 in
theorem refParse_no (s : ByteArray) (hs : s.size ≤ 4611686018427387904) (hno : ∀ n : Nat, n < 18446744073709551616 → s ≠ Wd.txt n) (w : World) :
    Calls Tryd.prog 37 #[.string s] w fun e w' => e = .returned (.tuple #[.int .u64 0, .bool false]) ∧ Below w.heap.size w w' := by
  have NO := Lib.hid hno
  clear hno
  by_cases h3 : s.size < 3
  · go_enter Tryd.func37, Tryd.ntmps37
    go_wp2_with fail
    go_ret2
    exact ⟨rfl, Below.refl _ _⟩
  by_cases h18 : 18 < s.size
  · go_enter Tryd.func37, Tryd.ntmps37
    go_wp2_with fail
    go_ret2
    exact ⟨rfl, Below.refl _ _⟩
  go_enter Tryd.func37, Tryd.ntmps37
  go_wp2
  go_loop [4, 5] (fun n i => ∃ (k : Nat) (x : Int), 2 ≤ k ∧ k ≤ s.size ∧ i = .int .i64 k ∧ n = .int .u64 x ∧ 0 ≤ x ∧ x ≤ 18446744073709551615) (fun _ i => s.size - (intOf i).toNat)
  case atStart => exact ⟨2, 0, by omega, by omega, rfl, rfl, by omega, by omega⟩
  case round =>
    obtain ⟨k, x, hk2, hk, rfl, rfl, hx0, hx1⟩ := hrel
    by_cases hlt : k < s.size
    · have hby : s[k].toNat < 256 := s[k].toNat_lt
      by_cases h97 : 97 ≤ s[k].toNat
      · go_wp2
        have hw := u64_bd
        refine ⟨⟨k + 1, _, by omega, by omega, by go_num, rfl, (hw _).1, (hw _).2⟩, by simp [intOf]; omega⟩
      · go_wp2
        have hw := u64_bd
        refine ⟨⟨k + 1, _, by omega, by omega, by go_num, rfl, (hw _).1, (hw _).2⟩, by simp [intOf]; omega⟩
    · obtain rfl : k = s.size := by omega
      obtain ⟨n, rfl⟩ := Int.eq_ofNat_of_zero_le hx0
      have hbq : ((Wd.txt n).toList == s.toList) = false := by
        rw [beq_eq_false_iff_ne]
        intro h
        rw [Go.ByteArray.toList_eq, Go.ByteArray.toList_eq] at h
        refine NO.out n (by omega) ?_
        apply ByteArray.ext
        apply Array.ext'
        exact h.symm
      go_wp2_with fail
      refine (refText_any n (by omega) _).mono ?_
      rintro e w' ⟨rfl, hb⟩
      go_wp2_with fail
      go_ret2
      exact ⟨rfl, hb⟩
/-- A number that a text is read as: the one whose text it is, if there is one. -/
def Reads (t : ByteArray) (n : Nat) : Prop := n < 18446744073709551616 ∧ ∀ m : Nat, m < 18446744073709551616 → t = Wd.txt m → n = m
theorem refParse_any (t : ByteArray) (w : World) (ht : t.size ≤ 4611686018427387904) :
    Calls Tryd.prog 37 #[.string t] w fun e w' => ∃ (n : Nat) (b : Bool), Hid (Reads t n) ∧ e = .returned (.tuple #[.int .u64 n, .bool b]) ∧ Below w.heap.size w w' := by
  by_cases h : ∃ m : Nat, m < 18446744073709551616 ∧ t = Wd.txt m
  · obtain ⟨m, hm, rfl⟩ := h
    refine (refParse_yes m hm w).mono ?_
    rintro e w' ⟨rfl, hb⟩
    exact ⟨m, true, Lib.hid ⟨hm, fun k _ e => Wd.txt_inj e⟩, rfl, hb⟩
  · refine (refParse_no t ht (fun n hn e => h ⟨n, hn, e⟩) w).mono ?_
    rintro e w' ⟨rfl, hb⟩
    exact ⟨0, false, Lib.hid ⟨by omega, fun k hk e => absurd ⟨k, hk, e⟩ h⟩, rfl, hb⟩
end Go.Proofs.YtmijnhcbbklmaaaDoor
