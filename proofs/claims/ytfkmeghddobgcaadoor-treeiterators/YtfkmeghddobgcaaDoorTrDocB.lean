/-
  WALKS over tree.areAttrs, isOpen.
-/
import Derived.Test.YtfkmeghddobgcaaDoorTrDocA
namespace Go.Proofs.YtfkmeghddobgcaaDoor
open Go.RowKit Go.Lib
namespace Tr
/-- the name ahead -/
def pre (l : List (ByteArray × ByteArray)) : Nat → Option ByteArray
  | 0 => none
  | i + 1 => l[i]?.map (·.1)
def gapB (x : ByteArray) : Option ByteArray → Bool
  | none => true
  | some q => !(Op.bytesLess x.toList q.toList || x.toList == q.toList)
theorem atsB_step (l : List (ByteArray × ByteArray)) (i : Nat) (x : ByteArray × ByteArray) (h : l[i]? = some x) : atsB (l.drop i) (pre l i) = (nameB x.1 && (textB x.2 && (gapB x.1 (pre l i) && atsB (l.drop (i + 1)) (pre l (i + 1))))) := by
  obtain ⟨hi, rfl⟩ := List.getElem?_eq_some_iff.1 h
  rw [List.drop_eq_getElem_cons hi]
  show (_ && (_ && (_ && atsB (l.drop (i + 1)) (some l[i].1)))) = _
  have e : pre l (i + 1) = some l[i].1 := by
    show l[i]?.map (·.1) = _
    rw [h]
    rfl
  rw [e]
  cases pre l i <;> rfl
theorem atsB_end (l : List (ByteArray × ByteArray)) (i : Nat) (h : ¬ i < l.length) : atsB (l.drop i) (pre l i) = true := by
  rw [List.drop_eq_nil_of_le (by omega)]
  rfl
end Tr
set_option maxRecDepth 100000 in
set_option maxHeartbeats 2000000 in
theorem trAreAttrs (v : Value) (l : List (ByteArray × ByteArray)) (w : World) (hA : Tr.AtRow w v l) (hs : ∀ x ∈ l, x.1.size ≤ 140737488351232 ∧ x.2.size ≤ 140737488351232) (hS : Spans w) (hT : Lib.Utf8Tabs 1 2 w) :
    Calls Tryd.prog 55 #[v] w fun r w' => r = .returned (.bool (Tr.atsB l none)) ∧ Below w.heap.size w w' := by
  obtain ⟨p, cap, rfl, a1, a2, a2', a3⟩ := hA
  obtain ⟨n, hn⟩ : ∃ n, l.length = n := ⟨_, rfl⟩
  rw [hn] at a1 a3 ⊢
  have HN := hide' hn
  have HA := hide' a3
  have cN : ∀ (s : ByteArray) w1, s.size ≤ 140737488351232 → Below w.heap.size w w1 → _ := fun s w1 h hb => chName s w1 (by omega) (hS.below hb (Nat.le_refl _)) (tabs_below hT hb (Nat.le_refl _))
  have cT : ∀ (s : ByteArray) w1, s.size ≤ 140737488351232 → Below w.heap.size w w1 → _ := fun s w1 h hb => chTexts s w1 (by omega) (hS.below hb (Nat.le_refl _)) (tabs_below hT hb (Nat.le_refl _))
  have CN := hide' cN
  have CT := hide' cT
  have HS := hide' hs
  clear hs hS hT cN cT a3 hn a2'
  go_enter Tryd.func55, Tryd.ntmps55
  go_wp2_with fail
  go_loopw [7] (fun v wr => ∃ i : Nat, v = .int .i64 i ∧ i ≤ n ∧ Hid (Tr.atsB (l.drop i) (Tr.pre l i) = Tr.atsB l none) ∧ Hid (Below w.heap.size w wr)) (fun v _ => n - (RowKit.intOf v).toNat)
  case atStart => exact ⟨0, rfl, Nat.zero_le _, rfl, Below.refl _ _⟩
  case round =>
    obtain ⟨i, rfl, hi, HE, HR⟩ := hrel
    by_cases hlt : i < n
    · have t1 : (i : Int) < (n : Int) := by omega
      obtain ⟨b, o, rfl, ka⟩ := HA.out (by omega)
      obtain ⟨x, hx⟩ : ∃ x, l[i]? = some x := ⟨_, List.getElem?_eq_getElem (by rw [HN.out]; exact hlt)⟩
      have hx1 := HS.out x (List.mem_of_getElem? hx)
      have he := HE.out
      rw [Tr.atsB_step l i x hx] at he
      have k0 := (ka i x hx).1
      have k1 := (ka i x hx).2
      have q0 : wr.cell? ⟨b, o + i * 2, none⟩ = some (.string x.1) := (HR.out.cell (p := ⟨b, o + i * 2, none⟩) (block_lt_of_cell k0)).trans k0
      have q1 : wr.cell? ⟨b, o + i * 2 + 1, none⟩ = some (.string x.2) := (HR.out.cell (p := ⟨b, o + i * 2 + 1, none⟩) (block_lt_of_cell k1)).trans k1
      have hbA := HR.out.alloc HR.out.size (.cells #[.string x.1, .string x.2] 63)
      have c := CN.out x.1 _ hx1.1 hbA
      have y0 : (wr.alloc (.cells #[.string x.1, .string x.2] 63)).cell? ⟨wr.heap.size, 0, none⟩ = some (.string x.1) := by simp
      have y1 : (wr.alloc (.cells #[.string x.1, .string x.2] 63)).cell? ⟨wr.heap.size, 1, none⟩ = some (.string x.2) := by simp
      have HP : Hid (∀ j y, j + 1 = i → l[j]? = some y → wr.cell? ⟨b, o + j * 2, none⟩ = some (.string y.1)) := fun j y _ hy => (HR.out.cell (p := ⟨b, o + j * 2, none⟩) (block_lt_of_cell (ka j y hy).1)).trans (ka j y hy).1
      have HBA := hide' hbA
      have HY0 := hide' y0
      have HY1 := hide' y1
      have HE2 := hide' he
      have HX := hide' hx
      have HX1 := hide' hx1
      have HC := hide' c
      clear ka k0 k1 hx hx1 he HE hbA y0 y1 c HA HS CN
      go_wp2_with fail
      refine HC.out.mono ?_
      rintro e w1 ⟨rfl, hb1⟩
      have HB1 := hide' (HBA.out.trans (hb1.mono HBA.out.size))
      have z0 : w1.cell? ⟨wr.heap.size, 0, none⟩ = some (.string x.1) := (hb1.cell (p := ⟨wr.heap.size, 0, none⟩) (block_lt_of_cell HY0.out)).trans HY0.out
      have z1 : w1.cell? ⟨wr.heap.size, 1, none⟩ = some (.string x.2) := (hb1.cell (p := ⟨wr.heap.size, 1, none⟩) (block_lt_of_cell HY1.out)).trans HY1.out
      have HK : Hid (∀ j y, j + 1 = i → l[j]? = some y → w1.cell? ⟨b, o + j * 2, none⟩ = some (.string y.1)) := fun j y h1 hy => ((((Below.refl wr.heap.size wr).alloc (Nat.le_refl _) _).trans (hb1.mono (by simp))).cell (p := ⟨b, o + j * 2, none⟩) (block_lt_of_cell (HP.out j y h1 hy))).trans (HP.out j y h1 hy)
      have HW : Hid (wr.heap.size < w1.heap.size) := by have := hb1.size; simp at this; show _ < _; omega
      clear HC HY0 HY1 hb1 HP q0 q1
      cases cn : Tr.nameB x.1
      · have he := HE2.out
        rw [cn, Bool.false_and] at he
        have HE3 := hide' he
        clear he HE2
        go_wp2_with fail
        go_ret
        exact ⟨by rw [← HE3.out]; rfl, HB1.out⟩
      have HCT := hide' (CT.out x.2 w1 HX1.out.2 HB1.out)
      go_wp2_with fail
      refine HCT.out.mono ?_
      rintro e w2 ⟨rfl, hb2⟩
      have HB2 := hide' (HB1.out.trans (hb2.mono HB1.out.size))
      have u0 : w2.cell? ⟨wr.heap.size, 0, none⟩ = some (.string x.1) := (hb2.cell (p := ⟨wr.heap.size, 0, none⟩) HW.out).trans z0
      have HK2 : Hid (∀ j y, j + 1 = i → l[j]? = some y → w2.cell? ⟨b, o + j * 2, none⟩ = some (.string y.1)) := fun j y h1 hy => (hb2.cell (p := ⟨b, o + j * 2, none⟩) (block_lt_of_cell (HK.out j y h1 hy))).trans (HK.out j y h1 hy)
      clear hb2 z0 z1 HK HCT HW
      cases ct : Tr.textB x.2
      · have he := HE2.out
        rw [ct, Bool.false_and, Bool.and_false] at he
        have HE3 := hide' he
        clear he HE2
        go_wp2_with fail
        go_ret
        exact ⟨by rw [← HE3.out]; rfl, HB2.out⟩
      have he := HE2.out
      rw [cn, ct, Bool.true_and, Bool.true_and] at he
      clear HE2
      by_cases h0 : i = 0
      · subst h0
        have HE3 := hide' he
        clear he
        clear CT HK2 HX HX1 hi
        go_wp2_with fail
        go_quiet (fail)
        go_wp2_with fail
        exact ⟨⟨1, rfl, hlt, hide' HE3.out, hide' (below_drewN HB2.out nq)⟩, by simp [RowKit.intOf]; omega⟩
      · obtain ⟨j, rfl⟩ : ∃ j, i = j + 1 := ⟨i - 1, by omega⟩
        obtain ⟨y, hy⟩ : ∃ y, l[j]? = some y := ⟨_, List.getElem?_eq_getElem (by rw [HN.out]; omega)⟩
        have u1 := HK2.out j y rfl hy
        have ep : Tr.pre l (j + 1) = some y.1 := by show l[j]?.map _ = _; rw [hy]; rfl
        have g1 : (0 : Int) < ((j + 1 : Nat) : Int) := by omega
        have g2 : IntKind.i64.wrap (((j + 1 : Nat) : Int) - 1) = (j : Int) := by rw [IntKind.wrap_i64]; omega
        have g3 : (j : Int) < (n : Int) := by omega
        have g4 : 0 ≤ (j : Int) := by omega
        rw [ep] at he
        unfold Tr.gapB at he
        dsimp only at he
        have HE3 := hide' he
        have HL := hide' hlt
        clear he CT HK2 HX HX1 hi hy ep h0 hlt
        go_wp2_with fail
        go_quiet (fail)
        go_wp2_with fail
        · rename_i hh
          have e : (Op.bytesLess x.1.toList y.1.toList || x.1.toList == y.1.toList) = true := by rw [Bool.or_eq_true]; exact hh
          go_ret
          exact ⟨by rw [← HE3.out, e]; rfl, below_drewN HB2.out nq⟩
        · rename_i hh
          have e : (Op.bytesLess x.1.toList y.1.toList || x.1.toList == y.1.toList) = false := by rw [hh.1, hh.2]; rfl
          have he := HE3.out
          rw [e] at he
          exact ⟨⟨j + 2, by congr 1, HL.out, hide' he, hide' (below_drewN HB2.out nq)⟩, by have := HL.out; simp [RowKit.intOf]; omega⟩
    · have t1 : ¬ (i : Int) < (n : Int) := by omega
      have he := HE.out
      rw [Tr.atsB_end l i (by rw [HN.out]; exact hlt)] at he
      have HE2 := hide' he
      clear he hlt hi HA HS CN CT HE
      go_wp2
      go_ret
      exact ⟨by rw [← HE2.out]; rfl, HR.out⟩
set_option maxHeartbeats 1000000 in
theorem trIsOpen (e : Tr.Ev Value) (w : World) (hs : Tr.Small e) (hA : Tr.AtRow w e.av e.ats) (hS : Spans w) (hT : Lib.Utf8Tabs 1 2 w) :
    Calls Tryd.prog 44 #[.agg e.cs] w fun r w' => r = .returned (.bool (Tr.isOpenB e)) ∧ Below w.heap.size w w' := by
  obtain ⟨kind, num, dep, nm, av, ats, tx, fr, be⟩ := e
  obtain ⟨s1, s2, s3, s4⟩ := hs
  unfold Tr.isOpenB
  dsimp only at hA s1 s2 s3 s4 ⊢
  show Calls Tryd.prog 44 #[.agg #[.int .i64 kind, .int .i64 num, .int .i64 dep, .string nm, av, .string tx, .int .i64 fr, .int .i64 be]] w _
  have hb := (Below.refl w.heap.size w).alloc (Nat.le_refl _) (.cells #[.int .i64 kind, .int .i64 num, .int .i64 dep, .string nm, av, .string tx, .int .i64 fr, .int .i64 be] 39)
  have c := chName nm _ (by omega) (hS.below hb (Nat.le_refl _)) (tabs_below hT hb (Nat.le_refl _))
  have y1 : (w.alloc (.cells #[.int .i64 kind, .int .i64 num, .int .i64 dep, .string nm, av, .string tx, .int .i64 fr, .int .i64 be] 39)).cell? ⟨w.heap.size, 4, none⟩ = some av := by simp
  have cA : ∀ w1, Below w.heap.size w w1 → _ := fun w1 h => trAreAttrs av ats w1 (hA.below h (Nat.le_refl _)) s4 (hS.below h (Nat.le_refl _)) (tabs_below hT h (Nat.le_refl _))
  have HB := hide' hb
  have HC := hide' c
  have HY := hide' y1
  have CA := hide' cA
  clear hS hT hb c s1 s2 s3 s4 hA y1 cA
  by_cases c1 : tx.toList = []
  · cases cn : Tr.nameB nm
    · rw [cn] at HC
      go_enter Tryd.func44, Tryd.ntmps44
      go_wp2_with fail
      refine HC.out.mono ?_
      rintro e w1 ⟨rfl, hb1⟩
      have HD := hide' (HB.out.trans (hb1.mono HB.out.size))
      clear hb1 HC
      go_wp2
      go_ret
      exact ⟨by simp [c1], HD.out⟩
    · rw [cn] at HC
      go_enter Tryd.func44, Tryd.ntmps44
      go_wp2_with fail
      refine HC.out.mono ?_
      rintro e w1 ⟨rfl, hb1⟩
      have HD := hide' (HB.out.trans (hb1.mono HB.out.size))
      have z1 : w1.cell? ⟨w.heap.size, 4, none⟩ = some av := (hb1.cell (p := ⟨w.heap.size, 4, none⟩) (block_lt_of_cell HY.out)).trans HY.out
      clear hb1 HC
      go_wp2_with fail
      refine (CA.out w1 HD.out).mono ?_
      rintro e w2 ⟨rfl, hb2⟩
      have HD2 := hide' (HD.out.trans (hb2.mono HD.out.size))
      clear hb2 z1 CA
      go_wp2
      go_ret
      exact ⟨by simp [c1], HD2.out⟩
  · go_enter Tryd.func44, Tryd.ntmps44
    go_wp2
    go_ret
    exact ⟨by simp [c1], HB.out⟩
end Go.Proofs.YtfkmeghddobgcaaDoor
