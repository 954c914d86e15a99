/-
  The document's own way (package hurdleref03): One, Encode, Print.
-/
import Derived.Test.YtbndnkicmlecoaaDoorCKnows
import Derived.Test.YtbndnkicmlecoaaDoorCTrip
import Derived.Test.YtbndnkicmlecoaaDoorApp
import Derived.Test.YtbndnkicmlecoaaDoorRPrint
namespace Go.Proofs.YtbndnkicmlecoaaDoor
open Go.ChangeShapes Go.WideShapes Go.ChangeAt Go.RowKit
set_option maxRecDepth 20000

def OneEnd (x : X4) (w : World) (e : Ending) (w' : World) : Prop := ∃ u, e = .returned u ∧ BAt w' u (encX x) ∧ Below w.heap.size w w'
theorem byte_cell (N i : Nat) (z : Int) (h : z = ((N / 2 ^ (8 * i) % 256 : Nat) : Int)) : Value.int .u8 z = Value.int .u8 ((byteAt N i).toNat : Int) := by rw [byteAt_val, h]
theorem one_cells {o a b c : Nat} (ho : o ≤ 172) (ha : a ≤ 255) (hb : b ≤ 255) (hc : c ≤ 4294967295) : (bcells (encX ⟨o, a, b, c⟩)).toArray = #[Value.int .u8 (↑o % 256), .int .u8 0, .int .u8 ↑a, .int .u8 ↑b, .int .u8 (↑c % 256), .int .u8 (↑c / 256 % 256), .int .u8 (↑c / 65536 % 256), .int .u8 (↑c / 16777216)] := by
  have e : encX ⟨o, a, b, c⟩ = [byteAt o 0, byteAt o 1, byteAt a 0, byteAt b 0, byteAt c 0, byteAt c 1, byteAt c 2, byteAt c 3] := rfl
  rw [e]
  simp only [List.map_cons, List.map_nil]
  rw [← byte_cell o 0 (↑o % 256) (by simp), ← byte_cell o 1 0 (by simp; omega), ← byte_cell a 0 ↑a (by simp; omega), ← byte_cell b 0 ↑b (by simp; omega), ← byte_cell c 0 (↑c % 256) (by simp), ← byte_cell c 1 (↑c / 256 % 256) (by simp), ← byte_cell c 2 (↑c / 65536 % 256) (by simp), ← byte_cell c 3 (↑c / 16777216) (by simp; omega)]
set_option maxHeartbeats 1000000 in
theorem one_any (o a b c : Nat) (w : World) (ho : o ≤ 172) (ha : a ≤ 255) (hb : b ≤ 255) (hc : c ≤ 4294967295) :
    Calls Tryd.prog 27 #[insV o a b c] w (OneEnd ⟨o, a, b, c⟩ w) := by
  have HB := Lib.hid (BAt.lit (w.alloc (insB o a b c)) (encX ⟨o, a, b, c⟩) 5 (by rw [encX_len]; omega))
  have HC := Lib.hid (one_cells ho ha hb hc)
  go_enter Tryd.func27, Tryd.ntmps27
  go_wp2_with fail
  go_ret
  refine ⟨_, rfl, ?_, ?_⟩
  · have h := HB.out
    rw [encX_len, size_alloc, HC.out] at h
    exact h
  · exact ba _ (ba _ (Below.refl _ _))

set_option maxHeartbeats 2000000 in
theorem r3encode_any (v : Value) (l : List X4) (w : World) (hF : FAt w v l) (hk : ∀ x ∈ l, x.ok) (he : ferr l = 0) :
    Calls Tryd.prog 14 #[v] w fun e w' => ∃ u, e = .returned u ∧ BAt w' u (encL l) ∧ Below w.heap.size w w' := by
  obtain ⟨i0, hi, hz0, hz1, hz2⟩ := info_parts info8
  obtain ⟨ao, cap, rfl, hF2⟩ := hF
  have HF2 := Lib.hid hF2
  have HK := Lib.hid hk
  have HE := Lib.hid he
  have hl := (ferr_zero he).1
  clear hF2 hk he
  go_enter Tryd.func14, Tryd.ntmps14
  go_wp2_with fail
  go_loopw [3, 4] (fun u i wr => ∃ n : Nat, n ≤ l.length ∧ i = .int .i64 n ∧ wr.ownsRow w.heap.size 5 1 u (8 * n) (bcells ((l.take n).flatMap encX)) ∧ Below w.heap.size w wr) (fun _ i _ => l.length - (intOf i).toNat)
  case atStart => exact ⟨0, by omega, rfl, World.ownsRow_nil _ _ _ _, Below.refl _ _⟩
  case round =>
    obtain ⟨n, hn, rfl, hO, hB⟩ := hrel
    have HO := Lib.hid hO
    have HB := Lib.hid hB
    clear hO
    by_cases hlt : n < l.length
    · rcases HF2.out with h0 | ⟨b, off, rfl, hb, hc⟩
      · rw [h0] at hlt; simp at hlt
      obtain ⟨c0, c1, c2, c3⟩ := hc n hlt
      have d0 := (hB.cell (p := ⟨b, _, none⟩) hb).trans c0
      have d1 := (hB.cell (p := ⟨b, _, none⟩) hb).trans c1
      have d2 := (hB.cell (p := ⟨b, _, none⟩) hb).trans c2
      have d3 := (hB.cell (p := ⟨b, _, none⟩) hb).trans c3
      have hra := (ferr_zero HE.out).2
      rw [List.all_eq_true] at hra
      obtain ⟨o, a, b', c, hx, ho, ha, hb', hc'⟩ := right_nats (hra _ (List.getElem_mem hlt)) (HK.out _ (List.getElem_mem hlt))
      have HN : Hid ((l.take (n + 1)).flatMap encX = (l.take n).flatMap encX ++ encX ⟨o, a, b', c⟩) := Lib.hid (by rw [enc_snoc hlt, hx])
      rw [hx] at d0 d1 d2 d3
      simp only at d0 d1 d2 d3
      clear hc c0 c1 c2 c3 hB hra hx
      go_wp2_with fail
      refine (one_any o a b' c _ ho ha hb' hc').mono ?_
      rintro e w1 ⟨u1, rfl, hU, hb1⟩
      have HB1 := Lib.hid (HB.out.trans (hb1.mono HB.out.size))
      have HO1 := Lib.hid (own_below HO.out hb1)
      have HU := Lib.hid hU.src
      have hs1 := HB1.out.size
      clear hb1 HB HO d0 d1 d2 d3 hU
      go_wp2_with (at_builtin; refine wpList_append_src _ rfl _ _ 24 rfl w.heap.size 5 i0 (.int .u8 0) 1 1 Tryd.underlying24 hi hz0 hz1 hz2 rfl (by decide) _ _ _ rfl HO1.out _ (encX ⟨o, a, b', c⟩).length (bcells (encX ⟨o, a, b', c⟩)) rfl HU.out (bcells_one _) (by rw [encX_len]; unfold maxLen; omega) (by rw [encX_len]; omega) hs1 ?_)
      intro v2 w2 hown2 hgrow2
      have HB2 := Lib.hid (grown_below HB1.out HO1.out hgrow2 hs1)
      have HO2 : Hid (w2.ownsRow w.heap.size 5 1 v2 (8 * (n + 1)) (bcells ((l.take (n + 1)).flatMap encX))) := Lib.hid (by
        rw [HN.out, bcells_app, show 8 * (n + 1) = 8 * n + (encX ⟨o, a, b', c⟩).length by rw [encX_len]; omega]
        exact hown2)
      clear hown2 hgrow2 HO1 HB1 HU
      go_wp2_with fail
      go_roundw
      case rel => exact ⟨n + 1, by omega, by go_num, HO2.out, HB2.out⟩
      case measure => simp [intOf]; omega
    · obtain rfl : n = l.length := by omega
      have HE2 : Hid (BAt wr u3 (encL l)) := Lib.hid (by
        have h := HO.out
        rw [List.take_length] at h
        rw [encL_ok HE.out]
        exact BAt.own h (enc_len l).symm)
      clear hB
      go_wp2_with fail
      go_ret
      exact ⟨_, rfl, HE2.out, HB.out⟩

set_option maxHeartbeats 2000000 in
theorem r3print_any (v : Value) (l : List X4) (w : World) (hF : FAt w v l) (hk : ∀ x ∈ l, x.ok) (he : ferr l = 0) :
    Calls Tryd.prog 15 #[v] w fun e w' => e = .returned (.string ⟨(textL l).toArray⟩) ∧ Below w.heap.size w w' := by
  obtain ⟨ao, cap, rfl, hF2⟩ := hF
  have HF2 := Lib.hid hF2
  have HK := Lib.hid hk
  have HE := Lib.hid he
  have hl := (ferr_zero he).1
  clear hF2 hk he
  go_enter Tryd.func15, Tryd.ntmps15
  go_wp2_with fail
  go_loopw [3, 4] (fun u i wr => ∃ n : Nat, n ≤ l.length ∧ i = .int .i64 n ∧ u = .string ⟨((l.take n).flatMap lineX).toArray⟩ ∧ Below w.heap.size w wr) (fun _ i _ => l.length - (intOf i).toNat)
  case atStart => exact ⟨0, by omega, rfl, rfl, Below.refl _ _⟩
  case round =>
    obtain ⟨n, hn, rfl, rfl, hB⟩ := hrel
    have HB := Lib.hid hB
    by_cases hlt : n < l.length
    · rcases HF2.out with h0 | ⟨b, off, rfl, hb, hc⟩
      · rw [h0] at hlt; simp at hlt
      obtain ⟨c0, c1, c2, c3⟩ := hc n hlt
      have d0 := (hB.cell (p := ⟨b, _, none⟩) hb).trans c0
      have d1 := (hB.cell (p := ⟨b, _, none⟩) hb).trans c1
      have d2 := (hB.cell (p := ⟨b, _, none⟩) hb).trans c2
      have d3 := (hB.cell (p := ⟨b, _, none⟩) hb).trans c3
      have hra := (ferr_zero HE.out).2
      have hle := lines_le (l := l.take n) (by rw [List.all_eq_true] at hra ⊢; exact fun x hx => hra x (List.mem_of_mem_take hx)) (fun x hx => HK.out x (List.mem_of_mem_take hx))
      rw [List.length_take, Nat.min_eq_left hn] at hle
      rw [List.all_eq_true] at hra
      obtain ⟨r, a, b', c, hr, hf, hx⟩ := right_is (hra _ (List.getElem_mem hlt)) (HK.out _ (List.getElem_mem hlt))
      have hsz := itxt_size hr hf
      have HN : Hid ((⟨((l.take n).flatMap lineX).toArray⟩ : ByteArray) ++ itxt r a b' c ++ (⟨#[10]⟩ : ByteArray) = ⟨((l.take (n + 1)).flatMap lineX).toArray⟩) := Lib.hid (by
        rw [line_snoc hlt, hx, lineX_row hr, itxt_list]
        show (⟨_⟩ : ByteArray) ++ (⟨(Ip.join (Ip.partsOf r a b' c)).toArray⟩ : ByteArray) ++ (⟨([10] : List UInt8).toArray⟩ : ByteArray) = _
        rw [Wd.joined, Wd.joined, List.append_assoc])
      have HR := Lib.hid hr
      have HFi := Lib.hid hf
      rw [hx] at d0 d1 d2 d3
      simp only at d0 d1 d2 d3
      clear hc c0 c1 c2 c3 hB hra hx hr hf
      generalize (l.take n).flatMap lineX = T at *
      go_wp2_with fail
      refine (refPrint_row HR.out HFi.out _).mono ?_
      rintro e w1 ⟨rfl, hb1⟩
      have HB1 := Lib.hid (HB.out.trans (hb1.mono HB.out.size))
      clear hb1 HB d0 d1 d2 d3
      have hq : itxt r a b' c = itxt r a b' c := rfl
      clear hq
      generalize itxt r a b' c = s at *
      go_wp2_with fail
      go_roundw
      case rel => exact ⟨n + 1, by omega, by go_num, by rw [HN.out], HB1.out⟩
      case measure => simp [intOf]; omega
    · obtain rfl : n = l.length := by omega
      have HE2 := Lib.hid (textL_ok HE.out)
      clear hB
      go_wp2_with fail
      go_ret
      exact ⟨retStr (show (⟨((l.take l.length).flatMap lineX).toArray⟩ : ByteArray) = ⟨(textL l).toArray⟩ by rw [List.take_length, HE2.out]), HB.out⟩
end Go.Proofs.YtbndnkicmlecoaaDoor
