/-
  What the document's functions of names answer (package hurdleref09).
-/
import Derived.Test.YtmijnhcbbklmaaaDoorNPlain
import Derived.Test.YtmijnhcbbklmaaaDoorRefText
import Derived.Deep.RegionHeld3
import Derived.BigRegion
import Derived.Lib.QuietBelow
namespace Go.Proofs.YtmijnhcbbklmaaaDoor
open Go.ChangeShapes Go.WideShapes Go.ChangeAt Go.RowKit
set_option maxRecDepth 20000

/-- A slice whose elements, of one cell each, are these. -/
def SAt (w : World) (v : Value) (cs : List Value) : Prop :=
  ∃ ao cap, v = .slice ao cs.length cap ∧ cs.length ≤ cap ∧ (cs = [] ∨ ∃ b, ao = some ⟨b, 0, none⟩ ∧ b < w.heap.size ∧ ∀ i u, cs[i]? = some u → w.cell? ⟨b, i, none⟩ = some u)
theorem SAt.below {w w' : World} {v : Value} {cs : List Value} (h : SAt w v cs) (hb : Below w.heap.size w w') : SAt w' v cs := by
  obtain ⟨ao, cap, rfl, hcap, h⟩ := h
  refine ⟨ao, cap, rfl, hcap, h.imp id ?_⟩
  rintro ⟨b, rfl, hl, hc⟩
  exact ⟨b, rfl, Nat.lt_of_lt_of_le hl hb.size, fun i u hi => (hb.cell (p := ⟨b, _, none⟩) hl).trans (hc i u hi)⟩
theorem SAt.own {w : World} {base : Nat} {e : TypeId} {v : Value} {n : Nat} {cs : List Value} (h : w.ownsRow base e 1 v n cs) (hn : n = cs.length) : SAt w v cs := by
  subst hn
  rcases Nat.eq_zero_or_pos cs.length with h0 | h0
  · obtain rfl := List.length_eq_zero_iff.1 h0
    obtain ⟨a, c, rfl⟩ := own_shape h
    exact ⟨a, c, rfl, Nat.zero_le _, .inl rfl⟩
  · obtain ⟨g, c, rfl, _, hl, hc, hx⟩ := own_cells h h0
    exact ⟨_, _, rfl, hc, .inr ⟨g, rfl, hl, hx⟩⟩
theorem SAt.lit {w : World} {g : Nat} {cs : Array Value} {t : TypeId} {fr : Nat × Nat} (h : w.heap[g]? = some (.cells cs t fr)) : SAt w (.slice (some ⟨g, 0, none⟩) cs.size cs.size) cs.toList :=
  ⟨some ⟨g, 0, none⟩, cs.size, by simp, by simp, .inr ⟨g, rfl, lt_of_block h, fun i u hu => by rw [cell_in h i]; simpa using hu⟩⟩
abbrev nmC (T : Tbl) : List Value := T.map fun p => .string p.1
abbrev noC (T : Tbl) : List Value := T.map fun p => .int .u32 (p.2 : Nat)
theorem beq_eq {a b : ByteArray} (h : (a.toList == b.toList) = true) : a = b := by
  have h := eq_of_beq h
  rw [Go.ByteArray.toList_eq, Go.ByteArray.toList_eq] at h
  exact ByteArray.ext (Array.ext' h)
theorem beq_ne {a b : ByteArray} (h : a ≠ b) : (a.toList == b.toList) = false := by
  cases q : (a.toList == b.toList)
  · rfl
  · exact absurd (beq_eq q) h
theorem textN_skip {T : Tbl} {n i : Nat} {p : ByteArray × Nat} (h : T[i]? = some p) (hn : p.2 ≠ n) : textN (T.drop i) n = textN (T.drop (i + 1)) n := by
  obtain ⟨hi, rfl⟩ := List.getElem?_eq_some_iff.1 h
  rw [List.drop_eq_getElem_cons hi]
  show (if (T[i]).2 = n then _ else _) = _
  rw [if_neg hn]
theorem textN_hit {T : Tbl} {n i : Nat} {p : ByteArray × Nat} (h : T[i]? = some p) (hn : p.2 = n) : textN (T.drop i) n = p.1 := by
  obtain ⟨hi, rfl⟩ := List.getElem?_eq_some_iff.1 h
  rw [List.drop_eq_getElem_cons hi]
  show (if (T[i]).2 = n then _ else _) = _
  rw [if_pos hn]
set_option maxHeartbeats 2000000 in
theorem rtext9_any (T : Tbl) (a b : Value) (n : Nat) (w : World) (ha : SAt w a (nmC T)) (hb : SAt w b (noC T)) (hn : n < 4294967296) (hl : T.length ≤ 8) :
    Calls Tryd.prog 28 #[a, b, .int .u32 n] w fun e w' => e = .returned (.string (textN T n)) ∧ Below w.heap.size w w' := by
  have HT : Hid (∀ w : World, Calls Tryd.prog 24 #[.int .u64 n] w fun e w' => e = .returned (.string (Wd.txt n)) ∧ Below w.heap.size w w') := Lib.hid fun w => refText_any n (by omega) w
  obtain ⟨ao, ca, rfl, hca, ha⟩ := ha
  obtain ⟨bo, cb, rfl, hcb, hb⟩ := hb
  have el : (nmC T).length = T.length := by simp
  have el2 : (noC T).length = T.length := by simp
  rw [el] at hca ⊢
  rw [el2] at hcb ⊢
  have HA := Lib.hid ha
  have HB := Lib.hid hb
  clear el el2 ha hb
  go_enter Tryd.func28, Tryd.ntmps28
  go_wp2_with fail
  go_loopw [7] (fun i wr => ∃ k : Nat, k ≤ T.length ∧ i = .int .i64 k ∧ wr = w ∧ textN T n = textN (T.drop k) n) (fun i _ => T.length - (intOf i).toNat)
  case atStart => exact ⟨0, by omega, rfl, rfl, rfl⟩
  case round =>
    obtain ⟨k, hk, rfl, rfl, hE⟩ := hrel
    have HE := Lib.hid hE
    clear hE
    by_cases hlt : k < T.length
    · have hlt' : (k : Int) < (T.length : Int) := by omega
      have h0 : (0 : Int) ≤ (k : Int) := by omega
      have t1 : (k : Int).toNat = k := by omega
      obtain ⟨p, hp⟩ : ∃ p, T[k]? = some p := ⟨T[k], List.getElem?_eq_getElem hlt⟩
      obtain ⟨x, rfl, hxl, hx⟩ : ∃ x, ao = some ⟨x, 0, none⟩ ∧ x < wr.heap.size ∧ wr.cell? ⟨x, k, none⟩ = some (.string p.1) := by
        rcases HA.out with h | ⟨x, rfl, hx, hc⟩
        · simp at h; subst h; simp at hlt
        · exact ⟨x, rfl, hx, hc k _ (by simp [hp])⟩
      obtain ⟨y, rfl, hyl, hy⟩ : ∃ y, bo = some ⟨y, 0, none⟩ ∧ y < wr.heap.size ∧ wr.cell? ⟨y, k, none⟩ = some (.int .u32 (p.2 : Nat)) := by
        rcases HB.out with h | ⟨y, rfl, hy, hc⟩
        · simp at h; subst h; simp at hlt
        · exact ⟨y, rfl, hy, hc k _ (by simp [hp])⟩
      have HP := Lib.hid hp
      have hlen : T.length ≤ 8 := hl
      clear hp
      by_cases hq : p.2 = n
      · have hqd : ((p.2 : Int) == (n : Int)) = true := by simp [hq]
        have HR := Lib.hid (HE.out.trans (textN_hit HP.out hq))
        clear hq
        go_wp2_with fail
        go_ret
        exact ⟨by rw [HR.out]; rfl, Below.refl _ _⟩
      · have hqd : ((p.2 : Int) == (n : Int)) = false := by simp; omega
        have HR := Lib.hid (HE.out.trans (textN_skip HP.out hq))
        clear hq
        go_wp2_with fail
        go_roundw
        case rel => exact ⟨k + 1, by omega, by go_num, trivial, HR.out⟩
        case measure => simp [intOf]; omega
    · obtain rfl : k = T.length := by omega
      have HR := Lib.hid HE.out
      rw [List.drop_length] at HR
      go_wp2_with fail
      refine (HT.out _).mono ?_
      rintro e w1 ⟨rfl, hb1⟩
      have HB1 := Lib.hid hb1
      clear hb1
      go_wp2_with fail
      go_ret
      exact ⟨by rw [HR.out]; rfl, HB1.out⟩
/-- What a table's reading ends with. -/
def RNEnd (T : Tbl) (s : ByteArray) (e : Ending) : Prop := ∃ o : Option Nat, readN T s o ∧ e = .returned (.tuple #[.int .u32 (o.getD 0 : Nat), .bool o.isSome])
theorem rnEnd_some {T : Tbl} {s : ByteArray} {n : Nat} (h : readN T s (some n)) : RNEnd T s (.returned (.tuple #[.int .u32 (n : Nat), .bool true])) := ⟨some n, h, rfl⟩
theorem rnEnd_none {T : Tbl} {s : ByteArray} (h : readN T s none) : RNEnd T s (.returned (.tuple #[.int .u32 0, .bool false])) := ⟨none, h, rfl⟩
theorem readN_no {T : Tbl} {s : ByteArray} (h : ∀ p ∈ T, p.1 ≠ s) (h2 : ∀ n : Nat, n < 4294967296 → s = Wd.txt n → textN T n ≠ s) : readN T s none := by
  intro n hn e
  rcases textN_is T n with ⟨p, hp, _, e1⟩ | ⟨_, e1⟩
  · exact h p hp (e1.symm.trans e.symm)
  · exact h2 n hn (e.trans e1) e.symm
theorem none_skip {T : Tbl} {s : ByteArray} {k : Nat} {p : ByteArray × Nat} (h : ∀ q ∈ T.take k, q.1 ≠ s) (hp : T[k]? = some p) (hn : p.1 ≠ s) : ∀ q ∈ T.take (k + 1), q.1 ≠ s := by
  obtain ⟨hi, rfl⟩ := List.getElem?_eq_some_iff.1 hp
  intro q hq
  rw [List.take_succ_eq_append_getElem hi, List.mem_append] at hq
  rcases hq with hq | hq
  · exact h q hq
  · rw [List.mem_singleton.1 hq]
    exact hn
set_option maxHeartbeats 4000000 in
theorem rread9_any (T : Tbl) (hT : tblGood T = true) (a b : Value) (s : ByteArray) (w : World) (ha : SAt w a (nmC T)) (hb : SAt w b (noC T)) (hs : s.size ≤ 4611686018427387904) (hl : T.length ≤ 8) :
    Calls Tryd.prog 32 #[a, b, .string s] w fun e w' => RNEnd T s e ∧ Below w.heap.size w w' := by
  have HTX : Hid (∀ (n : Nat) (w' : World), n < 4294967296 → Below w.heap.size w w' → Calls Tryd.prog 28 #[a, b, .int .u32 n] w' fun e w'' => e = .returned (.string (textN T n)) ∧ Below w'.heap.size w' w'') := Lib.hid fun n w' hn h => rtext9_any T a b n w' (ha.below h) (hb.below h) hn hl
  obtain ⟨ao, ca, rfl, hca, ha⟩ := ha
  obtain ⟨bo, cb, rfl, hcb, hb⟩ := hb
  have el : (nmC T).length = T.length := by simp
  have el2 : (noC T).length = T.length := by simp
  rw [el] at hca HTX ⊢
  rw [el2] at hcb HTX ⊢
  have HA := Lib.hid ha
  have HB := Lib.hid hb
  have HG := Lib.hid hT
  have HS := Lib.hid hs
  clear el el2 ha hb hT hs
  go_enter Tryd.func32, Tryd.ntmps32
  go_wp2_with fail
  go_loopw [8] (fun i wr => ∃ k : Nat, k ≤ T.length ∧ i = .int .i64 k ∧ wr = w ∧ ∀ q ∈ T.take k, q.1 ≠ s) (fun i _ => T.length - (intOf i).toNat)
  case atStart => exact ⟨0, by omega, rfl, rfl, by simp⟩
  case round =>
    obtain ⟨k, hk, rfl, rfl, hE⟩ := hrel
    have HE := Lib.hid hE
    clear hE
    by_cases hlt : k < T.length
    · have hlt' : (k : Int) < (T.length : Int) := by omega
      have h0 : (0 : Int) ≤ (k : Int) := by omega
      have t1 : (k : Int).toNat = k := by omega
      obtain ⟨p, hp⟩ : ∃ p, T[k]? = some p := ⟨T[k], List.getElem?_eq_getElem hlt⟩
      obtain ⟨x, rfl, hxl, hx⟩ : ∃ x, ao = some ⟨x, 0, none⟩ ∧ x < wr.heap.size ∧ wr.cell? ⟨x, k, none⟩ = some (.string p.1) := by
        rcases HA.out with h | ⟨x, rfl, hx, hc⟩
        · simp at h; subst h; simp at hlt
        · exact ⟨x, rfl, hx, hc k _ (by simp [hp])⟩
      obtain ⟨y, rfl, hyl, hy⟩ : ∃ y, bo = some ⟨y, 0, none⟩ ∧ y < wr.heap.size ∧ wr.cell? ⟨y, k, none⟩ = some (.int .u32 (p.2 : Nat)) := by
        rcases HB.out with h | ⟨y, rfl, hy, hc⟩
        · simp at h; subst h; simp at hlt
        · exact ⟨y, rfl, hy, hc k _ (by simp [hp])⟩
      have HP := Lib.hid hp
      have hlen : T.length ≤ 8 := hl
      clear hp
      by_cases hq : p.1 = s
      · have hqd : (p.1.toList == s.toList) = true := by simp [hq]
        have hm : p ∈ T := List.mem_of_getElem? HP.out
        have HR : Hid (readN T s (some p.2)) := Lib.hid ⟨tbl_small HG.out hm, by rw [textN_of HG.out hm, hq]⟩
        clear hq hm
        go_wp2_with fail
        go_ret2
        exact ⟨rnEnd_some HR.out, Below.refl _ _⟩
      · have hqd : (p.1.toList == s.toList) = false := beq_ne hq
        have HR := Lib.hid (none_skip HE.out HP.out hq)
        clear hq
        go_wp2_with fail
        go_roundw
        case rel => exact ⟨k + 1, by omega, by go_num, trivial, HR.out⟩
        case measure => simp [intOf]; omega
    · obtain rfl : k = T.length := by omega
      have HN : Hid (∀ q ∈ T, q.1 ≠ s) := Lib.hid (by have h := HE.out; rwa [List.take_length] at h)
      clear HE
      by_cases hex : ∃ m : Nat, m < 18446744073709551616 ∧ s = Wd.txt m
      · obtain ⟨m, hm, rfl⟩ := hex
        go_wp2_with fail
        refine (refParse_yes m hm _).mono ?_
        rintro e w1 ⟨rfl, hb1⟩
        have HB1 := Lib.hid hb1
        clear hb1
        by_cases hbig : m < 4294967296
        · have hb' : ¬ (4294967295 : Int) < (m : Int) := by omega
          have hwr : IntKind.u32.wrap (m : Int) = (m : Int) := by unfold IntKind.wrap; simp [IntKind.bits, IntKind.signed]; omega
          go_wp2_with fail
          refine (HTX.out m _ hbig HB1.out).mono ?_
          rintro e w2 ⟨rfl, hb2⟩
          have HB2 := Lib.hid (below2 HB1.out hb2)
          clear hb2
          by_cases hq : textN T m = Wd.txt m
          · have hqd : ((textN T m).toList == (Wd.txt m).toList) = true := by simp [hq]
            have HR : Hid (readN T (Wd.txt m) (some m)) := Lib.hid ⟨hbig, hq.symm⟩
            clear hq
            go_wp2_with fail
            go_ret2
            exact ⟨rnEnd_some HR.out, HB2.out⟩
          · have hqd : ((textN T m).toList == (Wd.txt m).toList) = false := beq_ne hq
            have HR := Lib.hid (readN_no HN.out (fun n _ e => by rw [← Wd.txt_inj e]; exact hq))
            clear hq
            go_wp2_with fail
            go_ret2
            exact ⟨rnEnd_none HR.out, HB2.out⟩
        · have hb' : (4294967295 : Int) < (m : Int) := by omega
          have HR := Lib.hid (readN_no HN.out (fun n hn e => absurd (Wd.txt_inj e) (by omega)))
          go_wp2_with fail
          go_ret2
          exact ⟨rnEnd_none HR.out, HB1.out⟩
      · have HR := Lib.hid (readN_no HN.out (fun n hn e => absurd ⟨n, by omega, e⟩ hex))
        have hno : ∀ n : Nat, n < 18446744073709551616 → s ≠ Wd.txt n := fun n hn e => hex ⟨n, hn, e⟩
        have HNO := Lib.hid hno
        clear hno hex
        go_wp2_with fail
        refine (refParse_no s HS.out HNO.out _).mono ?_
        rintro e w1 ⟨rfl, hb1⟩
        have HB1 := Lib.hid hb1
        clear hb1
        go_wp2_with fail
        go_ret2
        exact ⟨rnEnd_none HR.out, HB1.out⟩
end Go.Proofs.YtmijnhcbbklmaaaDoor
