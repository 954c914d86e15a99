/-
  The document's At and Behind (package hurdleref07); the masks of an instruction, as the laws put them together; two rows of a call's own that both grow.
-/
import Derived.Test.YtmbegncnbjafdaaDoorVNeed
namespace Go.Proofs.YtmbegncnbjafdaaDoor
open Go.ChangeShapes Go.WideShapes Go.ChangeAt Go.RowKit
set_option maxRecDepth 20000

theorem tcells_app (a b : List Bool) : tcells (a ++ b) = tcells a ++ tcells b := by simp
set_option maxHeartbeats 4000000 in
theorem rat_any (v : Value) (f : List X4) (p : Nat) (w : World) (hF : FAt w v f) (hok : ∀ x ∈ f, x.ok) (hs : soundB f = true) (hp : p < f.length) :
    Calls Tryd.prog 16 #[v, .int .i64 p] w fun e w' => e = .returned (.int .u32 (maskN (liveF f p) 18 : Nat)) ∧ Below w.heap.size w w' := by
  obtain ⟨i0, hi, hz0, hz1, hz2⟩ := info_parts infoT
  have HF := Lib.hid hF
  have HK := Lib.hid hok
  have HS := Lib.hid hs
  clear hF hok hs
  go_enter Tryd.func16, Tryd.ntmps16
  go_wp2_with fail
  go_loopw [5, 6] (fun u i wr => ∃ n : Nat, n ≤ 18 ∧ i = .int .i64 n ∧ Below w.heap.size w wr ∧ wr.ownsRow w.heap.size 4 1 u n (tcells (bitsL (liveF f p) n))) (fun _ i _ => 18 - (intOf i).toNat)
  case atStart => exact ⟨0, by omega, rfl, Below.refl _ _, World.ownsRow_nil _ _ _ _⟩
  case round =>
    obtain ⟨n, hn, rfl, hbw, ho⟩ := hrel
    have HB := Lib.hid hbw
    have HO := Lib.hid ho
    clear hbw ho
    by_cases hlt : n < 18
    · go_wp2_with fail
      refine (rneed_any v f p n _ (HF.out.below HB.out) HK.out HS.out hp hlt).mono ?_
      rintro e w2 ⟨rfl, hb2⟩
      have HB2 := Lib.hid (below2 HB.out (hb2.mono (Nat.le_refl _)))
      have HO2 := Lib.hid (own_below HO.out hb2)
      have hs2 := HB2.out.size
      have HE : Hid (tcells (bitsL (liveF f p) n) ++ [Value.bool (liveF f p n)] = tcells (bitsL (liveF f p) (n + 1))) := Lib.hid (by rw [bitsL_succ]; simp)
      clear hb2 HO
      generalize liveF f p n = y at *
      go_wp2_with (at_builtin; refine wpList_append_own _ rfl _ _ 56 rfl w.heap.size 4 i0 (.bool false) 1 1 Tryd.underlying56 hi hz0 hz1 hz2 rfl (by decide) _ _ _ rfl (HO2.out.alloc _) ⟨w2.heap.size, 0, none⟩ 1 1 [.bool y] rfl rfl (new_at w2 #[.bool y] 4) (by simp [Value.oneCell']) (by unfold maxLen; omega) (by omega) (by rw [size_alloc w2]; omega) ?_)
      intro v6 w6 hown6 hgrow6 _
      have HB6 := Lib.hid (grown_below (HB2.out.alloc hs2 (.cells #[.bool y] 4)) (HO2.out.alloc _) hgrow6 (by rw [size_alloc w2]; omega))
      rw [HE.out] at hown6
      have HO6 := Lib.hid hown6
      clear hown6 hgrow6
      go_wp2_with fail
      go_roundw
      case rel => exact ⟨n + 1, by omega, by go_num, HB6.out, HO6.out⟩
      case measure => simp [intOf]; omega
    · obtain rfl : n = 18 := by omega
      have HT := Lib.hid (TAt.own HO.out (by rw [bitsL_len]))
      obtain ⟨ao, c, rfl⟩ := own_shape HO.out
      go_wp2_with fail
      refine (rmask_any _ (liveF f p) _ HT.out).mono ?_
      rintro e w3 ⟨rfl, hb3⟩
      have HB3 := Lib.hid (below2 HB.out hb3)
      clear hb3
      go_wp2_with fail
      go_ret
      exact ⟨rfl, HB3.out⟩
/-- What is needed behind a place. -/
def behF (f : List X4) (p i : Nat) : Bool := (nextX (f.getD p zeroX) p).any fun q => liveF f q.toNat i
theorem any_take {L : List Int} {k : Nat} (h : k < L.length) (Q : Int → Bool) : (L.take (k + 1)).any Q = ((L.take k).any Q || Q L[k]) := any_upto h Q
set_option maxHeartbeats 4000000 in
theorem rbehind_any (v : Value) (f : List X4) (p : Nat) (w : World) (hF : FAt w v f) (hok : ∀ x ∈ f, x.ok) (hs : soundB f = true) (hp : p < f.length) :
    Calls Tryd.prog 17 #[v, .int .i64 p] w fun e w' => e = .returned (.int .u32 (maskN (behF f p) 18 : Nat)) ∧ Below w.heap.size w w' := by
  obtain ⟨i0, hi, hz0, hz1, hz2⟩ := info_parts infoT
  have HF := Lib.hid hF
  have HK := Lib.hid hok
  have HS := Lib.hid hs
  have HIN := Lib.hid (next_in (soundB_iff.1 hs) hok hp)
  have HN := Lib.hid (rnext_any v f p w hF hok hp hs)
  have HL2 := Lib.hid (nextX_short f[p] p)
  have HBF : Hid (∀ i, behF f p i = (nextX f[p] p).any fun q => liveF f q.toNat i) := Lib.hid (fun i => by unfold behF; rw [getD_at hp])
  obtain ⟨L, hL⟩ : ∃ L, L = nextX f[p] p := ⟨_, rfl⟩
  rw [← hL] at HIN HN HL2 HBF
  have hl2 := HL2.out
  clear hF hok hs hL hp
  go_enter Tryd.func17, Tryd.ntmps17
  go_wp2_with fail
  refine HN.out.mono ?_
  rintro e w1 ⟨u, rfl, hu, hb1⟩
  obtain ⟨ao1, cap1, rfl, hI⟩ := hu
  have HI := Lib.hid hI
  have HB1 := Lib.hid hb1
  clear hb1 HN hI
  go_wp2_with fail
  go_loopw [6, 7] (fun u i wr => ∃ n : Nat, n ≤ 18 ∧ i = .int .i64 n ∧ Below w1.heap.size w1 wr ∧ wr.ownsRow w1.heap.size 4 1 u n (tcells (bitsL (behF f p) n))) (fun _ i _ => 18 - (intOf i).toNat)
  case atStart => exact ⟨0, by omega, rfl, Below.refl _ _, World.ownsRow_nil _ _ _ _⟩
  case round =>
    obtain ⟨n, hn, rfl, hbw, ho⟩ := hrel
    have HB := Lib.hid hbw
    have HO := Lib.hid ho
    clear hbw ho
    by_cases hlt : n < 18
    · have hd18 : decide ((n : Int) < 18) = true := by simp; omega
      go_wp2_with fail
      go_loopw [8, 9] (fun b i w5 => ∃ k : Nat, k ≤ L.length ∧ i = .int .i64 k ∧ b = .bool ((L.take k).any fun q => liveF f q.toNat n) ∧ Below wr.heap.size wr w5) (fun _ i _ => L.length - (intOf i).toNat)
      case atStart => exact ⟨0, by omega, rfl, rfl, Below.refl _ _⟩
      case round =>
        obtain ⟨k, hk, rfl, rfl, hbw⟩ := hrel
        have HB5 := Lib.hid hbw
        clear hbw
        by_cases hlk : k < L.length
        · have HST := Lib.hid (any_take hlk fun q => liveF f q.toNat n)
          obtain ⟨hq1, hq2⟩ := HIN.out _ (List.getElem_mem hlk)
          rcases HI.out with h0 | ⟨b4, off4, rfl, hb4, hc4⟩
          · rw [h0] at hlk; simp at hlk
          have HBB := Lib.hid (below2 HB.out (HB5.out.mono (Nat.le_refl _)))
          have l0 := (HBB.out.cell (p := ⟨b4, _, none⟩) hb4).trans (hc4 k hlk)
          obtain ⟨y, hy⟩ : ∃ y : Nat, L[k] = y := ⟨L[k].toNat, by omega⟩
          rw [hy] at l0 hq1 hq2 HST
          rw [Int.toNat_natCast] at HST
          have hyf : y < f.length := by omega
          clear hc4 hy hq1 hq2
          cases hA : (L.take k).any fun q => liveF f q.toNat n
          · rw [hA, Bool.false_or] at HST
            clear hA
            go_wp2_with fail
            refine (rneed_any v f y n _ (HF.out.below (below2 HB1.out (HBB.out.mono (Nat.le_refl _)))) HK.out HS.out hyf hlt).mono ?_
            rintro e w6 ⟨rfl, hb6⟩
            have HB6 := Lib.hid (below2 HB5.out hb6)
            clear hb6 l0
            rw [← HST.out]
            go_wp2_with fail
            go_roundw
            case rel => exact ⟨k + 1, by omega, by go_num, rfl, HB6.out⟩
            case measure => simp [intOf]; omega
          · rw [hA, Bool.true_or] at HST
            clear hA
            go_wp2_with fail
            go_roundw
            case rel => exact ⟨k + 1, by omega, by go_num, by rw [HST.out], HB5.out⟩
            case measure => simp [intOf]; omega
        · obtain rfl : k = L.length := by omega
          have HB2 := Lib.hid (below2 HB.out (HB5.out.mono (Nat.le_refl _)))
          have HO2 := Lib.hid (own_below HO.out HB5.out)
          have hs2 := HB2.out.size
          rw [List.take_length, ← HBF.out]
          have HE : Hid (tcells (bitsL (behF f p) n) ++ [Value.bool (behF f p n)] = tcells (bitsL (behF f p) (n + 1))) := Lib.hid (by rw [bitsL_succ]; simp)
          generalize behF f p n = y at *
          rename_i w5
          go_wp2_with (at_builtin; refine wpList_append_own _ rfl _ _ 56 rfl w1.heap.size 4 i0 (.bool false) 1 1 Tryd.underlying56 hi hz0 hz1 hz2 rfl (by decide) _ _ _ rfl (HO2.out.alloc _) ⟨_, 0, none⟩ 1 1 [.bool y] rfl rfl (new_at _ #[.bool y] 4) (by simp [Value.oneCell']) (by unfold maxLen; omega) (by omega) (by rw [size_alloc]; omega) ?_)
          intro v6 w6 hown6 hgrow6 _
          have HB6 := Lib.hid (grown_below (HB2.out.alloc hs2 (.cells #[.bool y] 4)) (HO2.out.alloc _) hgrow6 (by rw [size_alloc]; omega))
          rw [HE.out] at hown6
          have HO6 := Lib.hid hown6
          clear hown6 hgrow6
          go_wp2_with fail
          go_roundw
          case rel => exact ⟨n + 1, by omega, by go_num, HB6.out, HO6.out⟩
          case measure => simp [intOf]; omega
    · obtain rfl : n = 18 := by omega
      have HT := Lib.hid (TAt.own HO.out (by rw [bitsL_len]))
      obtain ⟨ao, c, rfl⟩ := own_shape HO.out
      go_wp2_with fail
      refine (rmask_any _ (behF f p) _ HT.out).mono ?_
      rintro e w3 ⟨rfl, hb3⟩
      have HB3 := Lib.hid (below2 HB1.out ((below2 HB.out hb3).mono (Nat.le_refl _)))
      clear hb3
      go_wp2_with fail
      go_ret
      exact ⟨rfl, HB3.out⟩
/-! ### Two rows of a call's own -/
section
variable {ops : Array Oper} {rest : List Oper} {o : Oper} {a : Act} {w : World} {Q : Exit → Act → World → Prop}
/-- What append gives lies where the row lay, or in a new block. -/
theorem append_apart (base : Nat) (t ty e : TypeId) (i : TypeInfo) (z : Value) (bytes : Nat) (ht : Tryd.prog.underlying t = some (.slice e)) (hi : Tryd.prog.info? e = some i) (hz : i.zero = some z) (hsize : i.size = 1) (hby : i.bytes = bytes) (hzs : z.cells.size = 1)
    (v : Value) (n : Nat) (xs : List Value) (hown : w.ownsRow base e 1 v n xs) (ad : Addr) (c : Nat) (x : Value) (hx : w.cell? ad = some x) (h1 : x.oneCell' = true) (h63 : n + 1 ≤ maxLen) (hbytes : (n + 1) * bytes ≤ 140737488355328) (hbase : base ≤ w.heap.size) :
    ∃ v' w', (Builtin.append_ #[t, t] ty #[v, .slice (some ad) 1 c]).run Tryd.prog w = .ok v' w' ∧ w'.ownsRow base e 1 v' (n + 1) (xs ++ [x]) ∧ w.grownBy w' v.ownBlock ∧ ∀ k, v'.ownBlock = some k → v.ownBlock = some k ∨ w.heap.size ≤ k := by
  have hadd : ad.add 0 = ad := by unfold Addr.add; split <;> simp_all
  have hnews : ∀ j u, [x][j]? = some u → w.cell? (ad.add j) = some u := by
    intro j u hu
    rcases j with _ | j
    · rw [hadd, hx]
      simpa using hu
    · simp at hu
  have hone : ∀ u ∈ [x], u.oneCell' = true := by
    intro u hu
    obtain rfl := List.mem_singleton.1 hu
    exact h1
  obtain ⟨v', w', hr, h2, h3, _⟩ := run_append_own (P := Tryd.prog) w base t ty e i z 1 bytes ht hi hz hsize hby hzs (by decide) v n xs hown ad 1 c [x] rfl hnews hone h63 hbytes hbase
  refine ⟨v', w', hr, h2, h3, ?_⟩
  intro k hk
  rcases hown.2 with ⟨rfl, rfl⟩ | ⟨g, cap, cur, rfl, hbg, hg, hnc, hcm, hcs, htake⟩
  · obtain ⟨v2, w2, hr2, h22, _, _⟩ := run_append_own (P := Tryd.prog) w w.heap.size t ty e i z 1 bytes ht hi hz hsize hby hzs (by decide) (.slice none 0 0) 0 xs ⟨hown.1, .inl ⟨rfl, rfl⟩⟩ ad 1 c [x] rfl hnews hone h63 hbytes (Nat.le_refl _)
    rw [hr] at hr2
    cases hr2
    exact .inr (h22.lt k hk).1
  · by_cases hroom : n + 1 ≤ cap
    · have hr2 := run_append_room (P := Tryd.prog) w t ty e i ht hi g n cap cur hg ad 1 c [x] (by rw [hsize]; rfl) hnews hone hroom (by rw [hsize, hcs]; simp; omega)
      rw [hr] at hr2
      cases hr2
      exact .inl hk
    · have holds : ∀ j u, xs[j]? = some u → w.cell? ((⟨g, 0, none⟩ : Addr).add j) = some u := hown.cells (g := g) rfl
      have hr2 := run_append_grow (P := Tryd.prog) w t ty e i z ht hi hz ⟨g, 0, none⟩ n cap xs (by rw [hsize]; exact hown.1) holds ad 1 c [x] (by rw [hsize]; rfl) hnews (by omega) (by unfold maxLen at h63; omega) (growslice_fits (by omega) (by rw [hby]; exact hbytes))
      rw [hr] at hr2
      cases hr2
      unfold Value.ownBlock at hk
      simp at hk
      exact .inr (by omega)
theorem wpList_append_apart (hgd : o.guard = none) (s x : Operand) (t : TypeId) (ho : o.op = .call { callee := .builtin .append, args := #[s, x], argTypes := #[t, t] })
    (base : Nat) (e : TypeId) (i : TypeInfo) (z : Value) (bytes : Nat) (ht : Tryd.prog.underlying t = some (.slice e)) (hi : Tryd.prog.info? e = some i) (hz : i.zero = some z) (hsize : i.size = 1) (hby : i.bytes = bytes) (hzs : z.cells.size = 1)
    (v : Value) (n : Nat) (xs : List Value) (hs : a.eval s = v) (hown : w.ownsRow base e 1 v n xs) (ad : Addr) (c : Nat) (y : Value) (hx : a.eval x = .slice (some ad) 1 c) (hy : w.cell? ad = some y) (h1 : y.oneCell' = true)
    (h63 : n + 1 ≤ maxLen) (hbytes : (n + 1) * bytes ≤ 140737488355328) (hbase : base ≤ w.heap.size)
    (h : ∀ v' w', w'.ownsRow base e 1 v' (n + 1) (xs ++ [y]) → w.grownBy w' v.ownBlock → (∀ k, v'.ownBlock = some k → v.ownBlock = some k ∨ w.heap.size ≤ k) → wpList Tryd.prog ops Q rest (a.put o.dst v') w') : wpList Tryd.prog ops Q (o :: rest) a w := by
  obtain ⟨v', w', hr, h2, h3, h4⟩ := append_apart base t o.type e i z bytes ht hi hz hsize hby hzs v n xs hown ad c y hy h1 h63 hbytes hbase
  refine wpList_plain hgd fun K hK => ?_
  unfold Oper.wp execOp
  simp only [ho, resolve, invoke, builtin, Sem.run_bind, Sem.run_pure, Result.andThen_ok, List.map_toArray, List.map_cons, List.map_nil, hs, hx, hr]
  exact hK _ _ (h v' w' h2 h3 h4)
end
/-- Rows that lie apart. -/
def Apart (u v : Value) : Prop := ∀ k, u.ownBlock = some k → v.ownBlock ≠ some k
theorem Apart.symm {u v : Value} (h : Apart u v) : Apart v u := fun k hv hu => h k hu hv
theorem Apart.kept {u v : Value} {w w' : World} {base n : Nat} {e : TypeId} {xs : List Value} (h : Apart u v) (ho : w.ownsRow base e 1 v n xs) (hg : w.grownBy w' u.ownBlock) : w'.ownsRow base e 1 v n xs := by
  refine ho.kept hg ?_
  cases hv : v.ownBlock with
  | none => exact .inl rfl
  | some k => exact .inr fun hu => h k hu.symm hv
theorem Apart.grown {u u' v : Value} {w w0 : World} {base n : Nat} {e : TypeId} {xs : List Value} (h : Apart u v) (ho : w.ownsRow base e 1 v n xs) (hs : w.heap.size ≤ w0.heap.size) (hn : ∀ k, u'.ownBlock = some k → u.ownBlock = some k ∨ w0.heap.size ≤ k) : Apart u' v := by
  intro k hk hv
  rcases hn k hk with h1 | h1
  · exact h k h1 hv
  · have := (ho.lt k hv).2
    omega
set_option maxHeartbeats 4000000 in
theorem luses2_any (op jt jf : Int) (k : Nat) (w : World) (hk : k < 4294967296) :
    Calls Tryd.prog 9 #[insV op jt jf k] w fun e w' => e = .returned (.tuple #[.int .u32 (useM ⟨op, jt, jf, k⟩ : Nat), .int .u32 (setM ⟨op, jt, jf, k⟩ : Nat)]) ∧ Below w.heap.size w w' := by
  obtain ⟨i0, hi, hz0, hz1, hz2⟩ := info_parts infoT
  have HU : Hid (useM ⟨op, jt, jf, k⟩ = maskN (usesP ⟨op, jt, jf, k⟩) 18 ∧ setM ⟨op, jt, jf, k⟩ = maskN (setsP ⟨op, jt, jf, k⟩) 18) := Lib.hid ⟨rfl, rfl⟩
  rw [HU.out.1, HU.out.2]
  obtain ⟨P, hP⟩ : ∃ P, P = usesP ⟨op, jt, jf, k⟩ := ⟨_, rfl⟩
  obtain ⟨R, hR⟩ : ∃ R, R = setsP ⟨op, jt, jf, k⟩ := ⟨_, rfl⟩
  have HCU : Hid (∀ n : Nat, n < 18 → ∀ W : World, Calls Tryd.prog 22 #[insV op jt jf k, .int .i64 n] W fun e w' => e = .returned (.bool (P n)) ∧ Below W.heap.size W w') := Lib.hid (fun n hn W => by rw [hP]; exact rUses_any op jt jf k n W hk hn)
  have HCS : Hid (∀ n : Nat, n < 18 → ∀ W : World, Calls Tryd.prog 23 #[insV op jt jf k, .int .i64 n] W fun e w' => e = .returned (.bool (R n)) ∧ Below W.heap.size W w') := Lib.hid (fun n hn W => by rw [hR]; exact rSets_any op jt jf k n W hk hn)
  rw [← hP, ← hR]
  clear hP hR HU
  have HX0 := Lib.hid (heap_alloc_new w (insB op jt jf k))
  have HB0 := Lib.hid (ba (insB op jt jf k) (Below.refl w.heap.size w))
  have hsz0 := size_alloc w (insB op jt jf k)
  obtain ⟨W, hW⟩ : ∃ W, W = w.alloc (insB op jt jf k) := ⟨_, rfl⟩
  rw [← hW] at HX0 HB0 hsz0
  have HSZ := Lib.hid hsz0
  clear hsz0
  go_enter Tryd.func9, Tryd.ntmps9
  go_upto_region 1 with fail
  rw [← hW]
  clear hW
  go_wp2_with fail
  go_loopw [4, 5, 6] (fun u v i wr => ∃ n : Nat, n ≤ 18 ∧ i = .int .i64 n ∧ Below W.heap.size W wr ∧ wr.ownsRow W.heap.size 4 1 u n (tcells (bitsL P n)) ∧ wr.ownsRow W.heap.size 4 1 v n (tcells (bitsL R n)) ∧ Apart u v) (fun _ _ i _ => 18 - (intOf i).toNat)
  case atStart => exact ⟨0, by omega, rfl, Below.refl _ _, World.ownsRow_nil _ _ _ _, World.ownsRow_nil _ _ _ _, fun k h => by cases h⟩
  case round =>
    obtain ⟨n, hn, rfl, hbw, ho, ho2, hap⟩ := hrel
    have HB := Lib.hid hbw
    have HO := Lib.hid ho
    have HV := Lib.hid ho2
    have HA := Lib.hid hap
    clear hbw ho ho2 hap
    by_cases hlt : n < 18
    · have hX := (HB.out.block _ (by have := HSZ.out; omega)).trans HX0.out
      have c0 := cell_in hX 0
      have c1 := cell_in hX 1
      have c2 := cell_in hX 2
      have c3 := cell_in hX 3
      clear hX
      go_wp2_with fail
      refine (HCU.out n hlt _).mono ?_
      rintro e w2 ⟨rfl, hb2⟩
      have HB2 := Lib.hid (below2 HB.out hb2)
      have HO2 := Lib.hid (own_below HO.out hb2)
      have HV2 := Lib.hid (own_below HV.out hb2)
      have hs2 := HB2.out.size
      have HE : Hid (tcells (bitsL P n) ++ [Value.bool (P n)] = tcells (bitsL P (n + 1))) := Lib.hid (by rw [bitsL_succ]; simp)
      have HE2 : Hid (tcells (bitsL R n) ++ [Value.bool (R n)] = tcells (bitsL R (n + 1))) := Lib.hid (by rw [bitsL_succ]; simp)
      clear hb2 HO HV c0 c1 c2 c3
      obtain ⟨y, hy⟩ : ∃ y, y = P n := ⟨_, rfl⟩
      rw [← hy] at HE ⊢
      clear hy
      go_wp2_with (at_builtin; refine wpList_append_apart rfl _ _ 56 rfl W.heap.size 4 i0 (.bool false) 1 Tryd.underlying56 hi hz0 hz1 hz2 rfl _ _ _ rfl (HO2.out.alloc _) ⟨w2.heap.size, 0, none⟩ 1 (.bool y) rfl (cell_in (heap_alloc_new w2 (.cells #[.bool y] 4)) 0) rfl (by unfold maxLen; omega) (by omega) (by rw [size_alloc w2]; omega) ?_)
      intro v6 w6 hown6 hgrow6 hap6
      have HB6 := Lib.hid (grown_below (HB2.out.alloc hs2 (.cells #[.bool y] 4)) (HO2.out.alloc _) hgrow6 (by rw [size_alloc w2]; omega))
      have HV6 := Lib.hid (HA.out.kept (HV2.out.alloc (.cells #[.bool y] 4)) hgrow6)
      have HA6 := Lib.hid (HA.out.grown (HV2.out.alloc (.cells #[.bool y] 4)) (u' := v6) (Nat.le_refl _) (fun k hk => by rw [size_alloc]; exact hap6 k hk))
      rw [HE.out] at hown6
      have HO6 := Lib.hid hown6
      have hX := (HB6.out.block _ (by have := HSZ.out; omega)).trans HX0.out
      have c0 := cell_in hX 0
      have c1 := cell_in hX 1
      have c2 := cell_in hX 2
      have c3 := cell_in hX 3
      clear hown6 hgrow6 hap6 hX HB2 HO2 HV2 HA HE hs2
      go_wp2_with fail
      refine (HCS.out n hlt _).mono ?_
      rintro e w7 ⟨rfl, hb7⟩
      have HB7 := Lib.hid (below2 HB6.out hb7)
      have HO7 := Lib.hid (own_below HO6.out hb7)
      have HV7 := Lib.hid (own_below HV6.out hb7)
      have hs7 := HB7.out.size
      clear hb7 HO6 HV6 HB6 c0 c1 c2 c3
      obtain ⟨y2, hy2⟩ : ∃ y2, y2 = R n := ⟨_, rfl⟩
      rw [← hy2] at HE2 ⊢
      clear hy2
      go_wp2_with (at_builtin; refine wpList_append_apart rfl _ _ 56 rfl W.heap.size 4 i0 (.bool false) 1 Tryd.underlying56 hi hz0 hz1 hz2 rfl _ _ _ rfl (HV7.out.alloc _) ⟨w7.heap.size, 0, none⟩ 1 (.bool y2) rfl (cell_in (heap_alloc_new w7 (.cells #[.bool y2] 4)) 0) rfl (by unfold maxLen; omega) (by omega) (by rw [size_alloc w7]; omega) ?_)
      intro v8 w8 hown8 hgrow8 hap8
      have HB8 := Lib.hid (grown_below (HB7.out.alloc hs7 (.cells #[.bool y2] 4)) (HV7.out.alloc _) hgrow8 (by rw [size_alloc w7]; omega))
      have HO8 := Lib.hid (HA6.out.symm.kept (HO7.out.alloc (.cells #[.bool y2] 4)) hgrow8)
      have HA8 := Lib.hid (HA6.out.symm.grown (HO7.out.alloc (.cells #[.bool y2] 4)) (u' := v8) (Nat.le_refl _) (fun k hk => by rw [size_alloc]; exact hap8 k hk))
      rw [HE2.out] at hown8
      have HV8 := Lib.hid hown8
      clear hown8 hgrow8 hap8
      go_wp2_with fail
      go_roundw
      case rel => exact ⟨n + 1, by omega, by go_num, HB8.out, HO8.out, HV8.out, HA8.out.symm⟩
      case measure => simp [intOf]; omega
    · obtain rfl : n = 18 := by omega
      have HT := Lib.hid (TAt.own HO.out (by rw [bitsL_len]))
      have HT2 := Lib.hid (TAt.own HV.out (by rw [bitsL_len]))
      obtain ⟨ao, c, rfl⟩ := own_shape HO.out
      obtain ⟨ao2, c2, rfl⟩ := own_shape HV.out
      go_wp2_with fail
      refine (rmask_any _ P _ HT.out).mono ?_
      rintro e w3 ⟨rfl, hb3⟩
      have HB3 := Lib.hid (below2 HB0.out (below2 HB.out hb3))
      have HT3 := Lib.hid (HT2.out.below hb3)
      clear hb3
      go_wp2_with fail
      refine (rmask_any _ R _ HT3.out).mono ?_
      rintro e w4 ⟨rfl, hb4⟩
      have HB4 := Lib.hid (below2 HB3.out hb4)
      clear hb4
      go_wp2_with fail
      go_ret2
      exact ⟨rfl, HB4.out⟩
end Go.Proofs.YtmbegncnbjafdaaDoor
